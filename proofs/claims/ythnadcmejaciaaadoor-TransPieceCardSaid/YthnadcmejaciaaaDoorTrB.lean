/- Trans, of no program: which text a list is of. -/
import Derived.Test.YthnadcmejaciaaaDoorTrA
import Derived.Lib.Split
import Derived.Lib.SplitLaws
namespace Go.Proofs.YthnadcmejaciaaaDoor
set_option linter.unusedVariables false
set_option linter.unusedSimpArgs false

/-- The bytes that the pieces of a line tell. -/
def unln (l : List UInt8) : Option (List UInt8) :=
  if l = [] then some [] else match fst l with
  | none => none
  | some b => (unln (l.drop (pc b).length)).map (b :: ·)
termination_by l.length
decreasing_by
  have h1 := (pc_len b).1
  cases l with
  | nil => contradiction
  | cons a m => rw [List.length_drop]; simp only [List.length_cons]; omega
theorem unln_nil : unln [] = some [] := by rw [unln]; simp
theorem unln_pc (b : UInt8) (r : List UInt8) : unln (pc b ++ r) = (unln r).map (b :: ·) := by
  have hne : pc b ++ r ≠ [] := by simp [pc_ne]
  rw [unln, if_neg hne, fst_pc]
  simp
theorem unln_none {l : List UInt8} (h : l ≠ []) (hf : fst l = none) : unln l = none := by rw [unln, if_neg h, hf]
/-- The text of pieces. -/
def ptx (c : List UInt8) : List UInt8 := c.flatMap pc
theorem ptx_app (a b : List UInt8) : ptx (a ++ b) = ptx a ++ ptx b := by simp [ptx]
theorem ptx_one (b : UInt8) : ptx [b] = pc b := by simp [ptx]
theorem unln_ptx : ∀ c : List UInt8, unln (ptx c) = some c
  | [] => unln_nil
  | b :: l => by
    have : ptx (b :: l) = pc b ++ ptx l := by simp [ptx]
    rw [this, unln_pc, unln_ptx l]; rfl
theorem ptx_no10 (c : List UInt8) : (10 : UInt8) ∉ ptx c := fun h => by
  obtain ⟨b, _, hb⟩ := List.mem_flatMap.1 h
  exact pc_no10 b hb
theorem ptx_pos {c : List UInt8} (h : c ≠ []) : 0 < (ptx c).length := by
  cases c with
  | nil => contradiction
  | cons b l =>
    have : ptx (b :: l) = pc b ++ ptx l := by simp [ptx]
    rw [this, List.length_append]
    have := (pc_len b).1
    omega

/-- The text and the least width that lines tell. -/
def unl : List (List UInt8) → List UInt8 → Int → Option (List UInt8 × Int)
  | [], t, v => some (t, v)
  | l :: L, t, v => match unln l with
    | none => none
    | some p => unl L (t ++ p) (if 1 < p.length then max v (l.length + 1) else v)
/-- The lines of a list, as texts. -/
def lnsT (w : Int) : List UInt8 → List UInt8 → List (List UInt8)
  | c, [] => [c]
  | c, b :: l => if brk w (ptx c).length (pc b).length then c :: lnsT w [b] l else lnsT w (c ++ [b]) l
def wid : List (List UInt8) → Int → Int
  | [], v => v
  | x :: L, v => wid L (if 1 < x.length then max v ((ptx x).length + 1) else v)
theorem unl_ptx : ∀ (L : List (List UInt8)) (t : List UInt8) (v : Int), unl (L.map ptx) t v = some (t ++ L.flatten, wid L v)
  | [], t, v => by simp [unl, wid]
  | x :: L, t, v => by
    simp only [List.map_cons, unl, unln_ptx, wid, List.flatten_cons]
    rw [unl_ptx L, List.append_assoc]
theorem lnsT_flat (w : Int) : ∀ (c s : List UInt8), (lnsT w c s).flatten = c ++ s
  | c, [] => by simp [lnsT]
  | c, b :: l => by
    simp only [lnsT]
    split
    · rw [List.flatten_cons, lnsT_flat]; simp
    · rw [lnsT_flat]; simp
theorem wid_ge : ∀ (L : List (List UInt8)) (v : Int), v ≤ wid L v
  | [], v => Int.le_refl _
  | x :: L, v => by
    have := wid_ge L (if 1 < x.length then max v ((ptx x).length + 1) else v)
    simp only [wid]
    split at this <;> (rename_i h; simp only [h, if_true, if_false] at this ⊢; omega)
theorem wid_mem : ∀ (L : List (List UInt8)) (v : Int) (x : List UInt8), x ∈ L → 1 < x.length → ((ptx x).length : Int) + 1 ≤ wid L v
  | y :: L, v, x, h, h1 => by
    simp only [wid]
    rcases List.mem_cons.1 h with rfl | h
    · rw [if_pos h1]
      have := wid_ge L (max v ((ptx x).length + 1))
      omega
    · exact wid_mem L _ x h h1
theorem wid_le {W : Int} : ∀ (L : List (List UInt8)) (v : Int), v ≤ W → (∀ x ∈ L, 1 < x.length → ((ptx x).length : Int) + 1 ≤ W) → wid L v ≤ W
  | [], v, h, _ => h
  | x :: L, v, h, ha => by
    simp only [wid]
    refine wid_le L _ ?_ (fun y hy => ha y (by simp [hy]))
    split
    · have := ha x (by simp) (by assumption); omega
    · exact h
theorem brk_iff {w : Int} {a n : Nat} : brk w a n = true ↔ 2 ≤ w ∧ 0 < a ∧ w - 1 < (a : Int) + n := by
  simp [brk, and_assoc]
/-- A line of more than one piece is not too long. -/
theorem lnsT_short {w : Int} (hw : 2 ≤ w) : ∀ (s c : List UInt8), (1 < c.length → ((ptx c).length : Int) ≤ w - 1) → ∀ x ∈ lnsT w c s, 1 < x.length → ((ptx x).length : Int) ≤ w - 1
  | [], c, hc, x, hx, h1 => by
    simp only [lnsT, List.mem_singleton] at hx
    subst hx; exact hc h1
  | b :: l, c, hc, x, hx, h1 => by
    simp only [lnsT] at hx
    split at hx
    · rcases List.mem_cons.1 hx with rfl | hx
      · exact hc h1
      · exact lnsT_short hw l [b] (fun h => absurd h (by simp)) x hx h1
    · rename_i hb
      refine lnsT_short hw l (c ++ [b]) (fun h => ?_) x hx h1
      rw [ptx_app, ptx_one, List.length_append]
      by_cases hc0 : c = []
      · subst hc0; simp at h
      · have h0 := ptx_pos hc0
        rw [brk_iff] at hb
        have := Classical.not_not.1 (fun hh => hb ⟨hw, h0, Int.not_le.1 hh⟩)
        omega
/-- What a line begins with is in a line. -/
theorem lnsT_pre (w : Int) : ∀ (s c : List UInt8), ∃ x ∈ lnsT w c s, ∃ r, x = c ++ r
  | [], c => ⟨c, by simp [lnsT], [], by simp⟩
  | b :: l, c => by
    simp only [lnsT]
    split
    · exact ⟨c, by simp, [], by simp⟩
    · obtain ⟨x, hx, r, rfl⟩ := lnsT_pre w l (c ++ [b])
      exact ⟨_, hx, [b] ++ r, by simp⟩
theorem body_least {w v : Int} (hv2 : 2 ≤ v) (hvw : v ≤ w) : ∀ (s c : List UInt8), (∀ x ∈ lnsT w c s, 1 < x.length → ((ptx x).length : Int) + 1 ≤ v) → body v (ptx c).length s = body w (ptx c).length s
  | [], c, h => rfl
  | b :: l, c, h => by
    simp only [body]
    by_cases hb : brk w (ptx c).length (pc b).length = true
    · have hb2 : brk v (ptx c).length (pc b).length = true := by
        rw [brk_iff] at hb ⊢; omega
      rw [if_pos hb, if_pos hb2]
      have ih := body_least hv2 hvw l [b] (fun x hx => h x (by simp only [lnsT, if_pos hb]; exact List.mem_cons_of_mem _ hx))
      rw [ptx_one] at ih
      rw [ih]
    · have hl : lnsT w c (b :: l) = lnsT w (c ++ [b]) l := by simp only [lnsT, if_neg hb]
      rw [hl] at h
      have hb2 : ¬ brk v (ptx c).length (pc b).length = true := by
        intro hh
        rw [brk_iff] at hh
        have hc0 : c ≠ [] := fun e => by subst e; simp [ptx] at hh
        obtain ⟨x, hx, r, rfl⟩ := lnsT_pre w l (c ++ [b])
        have hcl : 0 < c.length := List.length_pos_iff.2 hc0
        have := h _ hx (by simp; omega)
        rw [ptx_app, ptx_app, ptx_one, List.length_append, List.length_append] at this
        omega
      rw [if_neg hb, if_neg hb2]
      have ih := body_least hv2 hvw l (c ++ [b]) h
      rw [ptx_app, ptx_one, List.length_append] at ih
      rw [ih]

/-- The lines of any text. -/
def spf (l : List UInt8) : List (List UInt8) := Lib.splitK [92, 10] 0 (Lib.count l [92, 10]) l
theorem occ_no10 {a r : List UInt8} (ha : (10 : UInt8) ∉ a) {j : Nat} (hj : j < a.length) : Lib.occAt (a ++ [92, 10] ++ r) [92, 10] j = false := by
  rw [← Bool.not_eq_true]
  intro h
  have h2 := Lib.occAt_second rfl h
  by_cases h3 : j + 1 < a.length
  · rw [List.append_assoc, List.getElem?_append_left h3] at h2
    exact ha (List.mem_of_getElem? h2)
  · have : j + 1 = a.length := by omega
    rw [List.append_assoc, this, List.getElem?_append_right (Nat.le_refl _)] at h2
    simp at h2
theorem index_no10 {a r : List UInt8} (ha : (10 : UInt8) ∉ a) : Lib.index (a ++ [92, 10] ++ r) [92, 10] = a.length :=
  Lib.index_first (by simp) (by rw [Lib.occAt, List.append_assoc, List.drop_left]; simp [List.isPrefixOf]) (fun j hj => occ_no10 ha hj)
theorem index_none10 {a : List UInt8} (ha : (10 : UInt8) ∉ a) : Lib.index a [92, 10] = -1 :=
  Lib.index_none (fun j hj => by
    rw [← Bool.not_eq_true]
    intro h
    exact ha (List.mem_of_getElem? (Lib.occAt_second rfl h)))
theorem spf_none {a : List UInt8} (ha : (10 : UInt8) ∉ a) : spf a = [a] := by
  unfold spf
  rw [Lib.count_miss (index_none10 ha)]
  rfl
theorem spf_some {a r : List UInt8} (ha : (10 : UInt8) ∉ a) : spf (a ++ [92, 10] ++ r) = a :: spf r := by
  unfold spf
  have hi := index_no10 (r := r) ha
  have hd : (a ++ [92, 10] ++ r).drop (a.length + 2) = r := by
    rw [show a.length + 2 = (a ++ [92, 10]).length by simp, List.drop_left]
  rw [Lib.count_hit (by simp) hi]
  simp only [List.length_cons, List.length_nil, Nat.zero_add, Nat.reduceAdd, hd]
  rw [Nat.add_comm 1, Lib.splitK, if_neg (by rw [hi]; simp), hi]
  simp only [Int.toNat_natCast, List.length_cons, List.length_nil, Nat.zero_add, Nat.reduceAdd, Nat.add_zero, hd]
  rw [List.append_assoc, List.take_left]
theorem spf_body (w : Int) : ∀ (s c : List UInt8), spf (ptx c ++ body w (ptx c).length s) = (lnsT w c s).map ptx
  | [], c => by
    simp only [body, List.append_nil, lnsT, List.map_cons, List.map_nil]
    exact spf_none (ptx_no10 c)
  | b :: l, c => by
    simp only [body, lnsT]
    split
    · have ih := spf_body w l [b]
      rw [ptx_one] at ih
      rw [List.map_cons, ← ih, ← spf_some (ptx_no10 c)]
      simp
    · have ih := spf_body w l (c ++ [b])
      rw [ptx_app, ptx_one, List.length_append] at ih
      rw [← ih, List.append_assoc]

def trm (s : List UInt8) : List UInt8 := if [36, 10] <:+ s then s.take (s.length - 2) else s
theorem trm_lst (t : List UInt8) (w : Int) : trm (lst t w) = body w 0 t := by
  unfold trm lst
  rw [if_pos ⟨_, rfl⟩]
  simp
/-- What Back answers. -/
def backP (s : List UInt8) : Option (List UInt8) := match unl (spf (trm s)) [] 2 with
  | none => none
  | some (t, v) => if lst t 0 = s ∨ v ≤ 300 ∧ lst t v = s then some t else none
/-- What the reference answers: a width of n or less is to be found. -/
def hasW (t s : List UInt8) : Bool := (List.range 301).any fun w => decide (lst t (w : Nat) = s)
def backR (s : List UInt8) : Option (List UInt8) := match rdr (s.length + 1) s with
  | none => none
  | some t => if hasW t s then some t else none
theorem hasW_iff {t s : List UInt8} : hasW t s = true ↔ ∃ w : Nat, w ≤ 300 ∧ lst t w = s := by
  simp only [hasW, List.any_eq_true, List.mem_range, decide_eq_true_iff]
  constructor
  · rintro ⟨w, h1, h2⟩; exact ⟨w, by omega, h2⟩
  · rintro ⟨w, h1, h2⟩; exact ⟨w, by omega, h2⟩
/-- Few steps are wanted: each takes a byte at least. -/
theorem rdr_fuel : ∀ (n m : Nat) (l : List UInt8), l.length < n → l.length < m → rdr n l = rdr m l
  | 0, _, _, h, _ => absurd h (by omega)
  | _ + 1, 0, _, _, h => absurd h (by omega)
  | n + 1, m + 1, l, h1, h2 => by
    rw [rdr, rdr]
    split
    · rfl
    · split
      · exact rdr_fuel n m _ (by rw [List.length_drop]; omega) (by rw [List.length_drop]; omega)
      · cases hf : fst l with
        | none => rfl
        | some b =>
          have := (pc_len b).1
          simp only
          rw [rdr_fuel n m _ (by rw [List.length_drop]; omega) (by rw [List.length_drop]; omega)]
theorem rdr_of {s t : List UInt8} {w : Int} (h : lst t w = s) : rdr (s.length + 1) s = some t := by
  have h1 := rdr_lst w t 0 (2 * t.length + s.length + 1) (by omega)
  unfold lst at h
  rw [h] at h1
  rw [← h1]
  exact rdr_fuel _ _ _ (by omega) (by omega)
theorem backR_iff {s t : List UInt8} : backR s = some t ↔ ∃ w : Nat, w ≤ 300 ∧ lst t w = s := by
  unfold backR
  constructor
  · intro h
    split at h
    · cases h
    · split at h
      · cases h
        exact hasW_iff.1 (by assumption)
      · cases h
  · rintro ⟨w, hw, h⟩
    rw [rdr_of h]
    simp only
    rw [if_pos (hasW_iff.2 ⟨w, hw, h⟩)]
theorem backP_iff {s t : List UInt8} : backP s = some t ↔ ∃ w : Nat, w ≤ 300 ∧ lst t w = s := by
  unfold backP
  constructor
  · intro h
    split at h
    · cases h
    · rename_i t' v hu
      split at h
      · rename_i hc
        cases h
        rcases hc with hc | ⟨hv, hc⟩
        · exact ⟨0, by omega, hc⟩
        · by_cases h0 : 0 ≤ v
          · exact ⟨v.toNat, by omega, by rw [Int.toNat_of_nonneg h0]; exact hc⟩
          · refine ⟨0, by omega, ?_⟩
            rw [← hc]
            have : ∀ (s : List UInt8) (line : Nat), body v line s = body ((0 : Nat) : Int) line s := by
              intro s
              induction s with
              | nil => intro _; rfl
              | cons b l ih =>
                intro line
                have e1 : ¬ brk v line (pc b).length = true := by rw [brk_iff]; omega
                have e2 : ¬ brk ((0 : Nat) : Int) line (pc b).length = true := by rw [brk_iff]; omega
                simp only [body, if_neg e1, if_neg e2, ih]
            unfold lst
            rw [this]
      · cases h
  · rintro ⟨w, hw, rfl⟩
    rw [trm_lst]
    have h1 := spf_body (w : Int) t []
    simp only [ptx, List.flatMap_nil, List.nil_append, List.length_nil] at h1
    have h2 := unl_ptx (lnsT w [] t) [] 2
    rw [lnsT_flat] at h2
    rw [h1, h2]
    simp only [List.nil_append]
    by_cases h2w : 2 ≤ w
    · have hle : wid (lnsT w [] t) 2 ≤ (w : Int) := wid_le _ _ (by omega) (fun x hx hx1 => by
        have := lnsT_short (w := w) (by omega) t [] (fun h => absurd h (by simp)) x hx hx1
        omega)
      have hb := body_least (w := w) (v := wid (lnsT w [] t) 2) (wid_ge _ _) hle t [] (fun x hx hx1 => wid_mem _ _ x hx hx1)
      simp only [ptx, List.flatMap_nil, List.length_nil] at hb
      rw [if_pos (.inr ⟨by omega, by unfold lst; rw [hb]⟩)]
    · have : ∀ (s : List UInt8) (line : Nat), body (w : Int) line s = body 0 line s := by
        intro s
        induction s with
        | nil => intro _; rfl
        | cons b l ih =>
          intro line
          have e1 : ¬ brk (w : Int) line (pc b).length = true := by rw [brk_iff]; omega
          have e2 : ¬ brk 0 line (pc b).length = true := by rw [brk_iff]; omega
          simp only [body, if_neg e1, if_neg e2, ih]
      rw [if_pos (.inl (by unfold lst; rw [this]))]
theorem back_same (s : List UInt8) : backP s = backR s := Option.ext fun t => backP_iff.trans backR_iff.symm
theorem unln_len : ∀ (n : Nat) (l p : List UInt8), l.length ≤ n → unln l = some p → p.length ≤ l.length
  | n, l, p, hn, h => by
    by_cases hl : l = []
    · subst hl; rw [unln_nil] at h; cases h; simp
    · cases hf : fst l with
      | none => rw [unln_none hl hf] at h; cases h
      | some b =>
        obtain ⟨r, rfl⟩ := fst_some hf
        rw [unln_pc] at h
        obtain ⟨q, hq, rfl⟩ := Option.map_eq_some_iff.1 h
        have h1 := (pc_len b).1
        rw [List.length_append] at hn ⊢
        match n, hn with
        | 0, hn => omega
        | n + 1, hn =>
          have := unln_len n r q (by omega) hq
          simp only [List.length_cons]; omega

end Go.Proofs.YthnadcmejaciaaaDoor
