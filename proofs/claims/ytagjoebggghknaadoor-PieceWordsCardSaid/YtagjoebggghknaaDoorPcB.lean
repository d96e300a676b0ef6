/- Pieces of a script, of no program: what the program's own reader tells; what is given; numbers. -/
import Derived.Test.YtagjoebggghknaaDoorPcA
import Derived.Lib.AtoiAll
namespace Go.Proofs.YtagjoebggghknaaDoor
open Go.Lib
set_option linter.unusedVariables false
set_option linter.unusedSimpArgs false

/-- What read tells, up to an end, and how many bytes it reads. -/
def rdP (e : UInt8 → Bool) (p : UInt8 → List UInt8) : List UInt8 → List UInt8 × Nat
  | [] => ([], 0)
  | c :: r => if e c = true then ([], 0) else if c = 92 then
      match r with
      | [] => ([], 0)
      | x :: r' => (p x ++ (rdP e p r').1, (rdP e p r').2 + 2)
    else (c :: (rdP e p r).1, (rdP e p r).2 + 1)
theorem rd_end (e : UInt8 → Bool) (p : UInt8 → List UInt8) (c : UInt8) (r : List UInt8) (h : e c = true) : rdP e p (c :: r) = ([], 0) := by rw [rdP.eq_def]; simp only; rw [if_pos h]
theorem rd_one (e : UInt8 → Bool) (p : UInt8 → List UInt8) (c : UInt8) (r : List UInt8) (h : e c = false) (h2 : c ≠ 92) : rdP e p (c :: r) = (c :: (rdP e p r).1, (rdP e p r).2 + 1) := by
  rw [rdP.eq_def]; simp only; rw [if_neg (by simp [h]), if_neg h2]
theorem rd_bs1 (e : UInt8 → Bool) (p : UInt8 → List UInt8) : rdP e p [92] = ([], 0) := by
  rw [rdP]; split <;> rfl
theorem rd_bs (e : UInt8 → Bool) (p : UInt8 → List UInt8) (x : UInt8) (r : List UInt8) (h : e 92 = false) : rdP e p (92 :: x :: r) = (p x ++ (rdP e p r).1, (rdP e p r).2 + 2) := by
  rw [rdP, if_neg (by simp [h]), if_pos rfl]
theorem rd_le (e : UInt8 → Bool) (p : UInt8 → List UInt8) (hp : ∀ x, (p x).length ≤ 2) : ∀ (k : Nat) (l : List UInt8), l.length ≤ k → (rdP e p l).2 ≤ l.length ∧ (rdP e p l).1.length ≤ (rdP e p l).2
  | 0, l, hk => by
    obtain rfl : l = [] := List.eq_nil_of_length_eq_zero (by omega)
    rw [rdP]; simp
  | k + 1, [], hk => by rw [rdP]; simp
  | k + 1, c :: r, hk => by
    simp only [List.length_cons] at hk
    rw [rdP.eq_def]; simp only
    split
    · simp
    · split
      · cases r with
        | nil => simp
        | cons x r' =>
          obtain ⟨h1, h2⟩ := rd_le e p hp k r' (by simp only [List.length_cons] at hk; omega)
          have := hp x
          simp only [List.length_cons, List.length_append]
          omega
      · obtain ⟨h1, h2⟩ := rd_le e p hp k r (by omega)
        simp only [List.length_cons]
        omega
/-- Take, at every byte d. -/
def tkD (d : UInt8) (l : List UInt8) : Option (List UInt8 × Nat) := if d = 92 ∨ d = 10 then none else tkP d l
def pairD (d : UInt8) (b : UInt8) : List UInt8 := if b = d then [b] else [92, b]
def endD (d : UInt8) (b : UInt8) : Bool := b == d || b == 10
theorem pair_len (d b : UInt8) : (pairD d b).length ≤ 2 := by unfold pairD; split <;> simp
theorem rd_tk (d : UInt8) (h1 : d ≠ 92) (h2 : d ≠ 10) : ∀ (k : Nat) (l : List UInt8), l.length ≤ k →
    tkP d l = if l[(rdP (endD d) (pairD d) l).2]? = some d then some ((rdP (endD d) (pairD d) l).1, (rdP (endD d) (pairD d) l).2 + 1) else none
  | 0, l, hk => by
    obtain rfl : l = [] := List.eq_nil_of_length_eq_zero (by omega)
    rw [tk_nil]; simp
  | k + 1, [], hk => by rw [tk_nil]; simp
  | k + 1, c :: r, hk => by
    have e92 : endD d 92 = false := by unfold endD; simp; exact fun h => h1 h.symm
    by_cases hc : c = d
    · subst hc
      rw [tk_end, rd_end _ _ _ _ (by unfold endD; simp)]; simp
    · by_cases h10 : c = 10
      · subst h10
        rw [tk_nl d r h2, rd_end _ _ _ _ (by unfold endD; simp)]; simp [hc]
      · have ec : endD d c = false := by unfold endD; simp [hc, h10]
        by_cases h92 : c = 92
        · subst h92
          cases r with
          | nil => rw [tk_bs1 d h1, rd_bs1]; simp [hc]
          | cons x r' =>
            rw [tk_bs d x r' h1, rd_bs _ _ _ _ e92, rd_tk d h1 h2 k r' (by simp only [List.length_cons] at hk; omega)]
            simp only [List.getElem?_cons_succ]
            by_cases q : r'[(rdP (endD d) (pairD d) r').2]? = some d
            · rw [if_pos q, if_pos q]
              simp only [Option.map_some, Option.some.injEq, Prod.mk.injEq]
              unfold pairD
              by_cases q2 : x = d
              · rw [if_pos q2, if_pos q2]; exact ⟨rfl, trivial⟩
              · rw [if_neg q2, if_neg q2]; exact ⟨rfl, trivial⟩
            · rw [if_neg q, if_neg q]; rfl
        · rw [tk_at d c r hc h10 h92, rd_one _ _ _ _ ec h92, rd_tk d h1 h2 k r (by simp only [List.length_cons] at hk; omega)]
          simp only [List.getElem?_cons_succ]
          split <;> rfl
def pairT (b : UInt8) : List UInt8 := [b]
def endT (b : UInt8) : Bool := b == 10
theorem rd_tx : ∀ (k : Nat) (l : List UInt8), l.length ≤ k →
    txP l = if (rdP endT pairT l).2 = l.length then some ((rdP endT pairT l).1, (rdP endT pairT l).2) else if l[(rdP endT pairT l).2]? = some 10 then some ((rdP endT pairT l).1, (rdP endT pairT l).2 + 1) else none
  | 0, l, hk => by
    obtain rfl : l = [] := List.eq_nil_of_length_eq_zero (by omega)
    rw [txP]; simp [rdP]
  | k + 1, [], hk => by rw [txP]; simp [rdP]
  | k + 1, c :: r, hk => by
    by_cases h10 : c = 10
    · subst h10
      rw [tx_nl, rd_end _ _ _ _ (by rfl)]; simp
    · have ec : endT c = false := by unfold endT; simp [h10]
      by_cases h92 : c = 92
      · subst h92
        cases r with
        | nil => rw [txP, if_neg (by decide), if_pos rfl, rd_bs1]; simp
        | cons x r' =>
          rw [tx_bs, rd_bs _ _ _ _ (by rfl), rd_tx k r' (by simp only [List.length_cons] at hk; omega)]
          simp only [List.getElem?_cons_succ, List.length_cons]
          by_cases q : (rdP endT pairT r').2 = r'.length
          · rw [if_pos q, if_pos (by omega)]; rfl
          · have q2 : ¬ (rdP endT pairT r').2 + 2 = r'.length + 1 + 1 := by omega
            rw [if_neg q, if_neg q2]
            split <;> rfl
      · rw [tx_at c r h10 h92, rd_one _ _ _ _ ec h92, rd_tx k r (by simp only [List.length_cons] at hk; omega)]
        simp only [List.getElem?_cons_succ, List.length_cons]
        by_cases q : (rdP endT pairT r).2 = r.length
        · rw [if_pos q, if_pos (by omega)]; rfl
        · have q2 : ¬ (rdP endT pairT r).2 + 1 = r.length + 1 := by omega
          rw [if_neg q, if_neg q2]
          split <;> rfl

/-- What can be given, with d: d's, and pairs of a \ and another byte, and single bytes. -/
def okT (d : UInt8) : List UInt8 → Bool
  | [] => true
  | c :: r => if c = d then okT d r else if c = 10 then false else if c = 92 then
      match r with
      | [] => false
      | e :: r' => decide (e ≠ d) && okT d r'
    else okT d r
/-- What is given. -/
def gvT (d : UInt8) : List UInt8 → List UInt8
  | [] => []
  | c :: r => if c = d then 92 :: c :: gvT d r else if c = 92 then
      match r with
      | [] => [92]
      | e :: r' => 92 :: e :: gvT d r'
    else c :: gvT d r
/-- The reference's loop. -/
def gvR (d : UInt8) : List UInt8 → List UInt8
  | [] => []
  | [c] => if c = d then [92, c] else [c]
  | c :: e :: r => (if c = d then [92, c] else [c]) ++ (if c = 92 then e :: gvR d r else gvR d (e :: r))
theorem gvR_two (d c e : UInt8) (r : List UInt8) : gvR d (c :: e :: r) = (if c = d then [92, c] else [c]) ++ (if c = 92 then e :: gvR d r else gvR d (e :: r)) := by rw [gvR]
theorem gvR_one (d c : UInt8) (r : List UInt8) (h : c ≠ 92) : gvR d (c :: r) = (if c = d then [92, c] else [c]) ++ gvR d r := by
  cases r with
  | nil => simp [gvR]
  | cons e r => rw [gvR, if_neg h]
theorem tk_ok (d : UInt8) (h1 : d ≠ 92) (h2 : d ≠ 10) : ∀ (k : Nat) (l : List UInt8), l.length ≤ k → ∀ t n, tkP d l = some (t, n) → okT d t = true
  | 0, l, hk, t, n, h => by
    obtain rfl : l = [] := List.eq_nil_of_length_eq_zero (by omega)
    rw [tk_nil] at h; cases h
  | k + 1, [], hk, t, n, h => by rw [tk_nil] at h; cases h
  | k + 1, c :: r, hk, t, n, h => by
    simp only [List.length_cons] at hk
    by_cases hc : c = d
    · subst hc
      rw [tk_end] at h; cases h; rfl
    · by_cases h10 : c = 10
      · subst h10; rw [tk_nl d r h2] at h; cases h
      · by_cases h92 : c = 92
        · subst h92
          cases r with
          | nil => rw [tk_bs1 d h1] at h; cases h
          | cons e r' =>
            rw [tk_bs d e r' h1] at h
            obtain ⟨⟨t', n'⟩, hr, h⟩ := Option.map_eq_some_iff.1 h
            have ih := tk_ok d h1 h2 k r' (by simp only [List.length_cons] at hk; omega) t' n' hr
            simp only [Prod.mk.injEq] at h
            obtain ⟨rfl, _⟩ := h
            split
            · rename_i he
              rw [okT.eq_def]; simp only; rw [if_pos he]; exact ih
            · rename_i he
              rw [okT, if_neg (fun q => h1 q.symm), if_neg (by decide), if_pos rfl]
              simp [he, ih]
        · rw [tk_at d c r hc h10 h92] at h
          obtain ⟨⟨t', n'⟩, hr, h⟩ := Option.map_eq_some_iff.1 h
          have ih := tk_ok d h1 h2 k r (by omega) t' n' hr
          simp only [Prod.mk.injEq] at h
          obtain ⟨rfl, _⟩ := h
          rw [okT.eq_def]; simp only; rw [if_neg hc, if_neg h10, if_neg h92]; exact ih
theorem gv_all (d : UInt8) (h1 : d ≠ 92) (h2 : d ≠ 10) : ∀ (k : Nat) (t : List UInt8), t.length ≤ k → okT d t = true →
    tkP d (gvT d t ++ [d]) = some (t, (gvT d t).length + 1) ∧ gvR d t = gvT d t ∧ (t.flatMap fun c => if c = d then [92, d] else [c]) = gvT d t
  | 0, t, hk, h => by
    obtain rfl : t = [] := List.eq_nil_of_length_eq_zero (by omega)
    refine ⟨?_, by rw [gvR, gvT], by simp [gvT]⟩
    rw [gvT]; exact tk_end d []
  | k + 1, [], hk, h => by
    refine ⟨?_, by rw [gvR, gvT], by simp [gvT]⟩
    rw [gvT]; exact tk_end d []
  | k + 1, c :: r, hk, h => by
    simp only [List.length_cons] at hk
    by_cases hc : c = d
    · subst hc
      rw [okT.eq_def] at h; simp only at h; rw [if_pos trivial] at h
      obtain ⟨a, b, e⟩ := gv_all c h1 h2 k r (by omega) h
      have hg : gvT c (c :: r) = 92 :: c :: gvT c r := by rw [gvT.eq_def]; simp only; rw [if_pos trivial]
      refine ⟨?_, ?_, ?_⟩
      · rw [hg, List.cons_append, List.cons_append, tk_bs c c _ h1, a]
        simp
      · rw [hg, gvR_one _ _ _ h1, if_pos rfl, b]; rfl
      · rw [hg, List.flatMap_cons, e]; simp
    · rw [okT.eq_def] at h; simp only at h; rw [if_neg hc] at h
      by_cases h10 : c = 10
      · rw [if_pos h10] at h; cases h
      · rw [if_neg h10] at h
        by_cases h92 : c = 92
        · subst h92
          rw [if_pos rfl] at h
          cases r with
          | nil => cases h
          | cons e r' =>
            simp only [Bool.and_eq_true, decide_eq_true_eq] at h
            obtain ⟨a, b, g⟩ := gv_all d h1 h2 k r' (by simp only [List.length_cons] at hk; omega) h.2
            have hg : gvT d (92 :: e :: r') = 92 :: e :: gvT d r' := by rw [gvT, if_neg hc, if_pos rfl]
            refine ⟨?_, ?_, ?_⟩
            · rw [hg, List.cons_append, List.cons_append, tk_bs d e _ h1, a]
              simp [h.1]
            · rw [hg, gvR_two, if_neg hc, if_pos rfl, b]; rfl
            · rw [hg, List.flatMap_cons, List.flatMap_cons, g, if_neg hc, if_neg h.1]; rfl
        · rw [if_neg h92] at h
          obtain ⟨a, b, g⟩ := gv_all d h1 h2 k r (by omega) h
          have hg : gvT d (c :: r) = c :: gvT d r := by rw [gvT.eq_def]; simp only; rw [if_neg hc, if_neg h92]
          refine ⟨?_, ?_, ?_⟩
          · rw [hg, List.cons_append, tk_at d c _ hc h10 h92, a]
            simp
          · rw [hg, gvR_one _ _ _ h92, if_neg hc, b]; rfl
          · rw [hg, List.flatMap_cons, g, if_neg hc]; rfl
/-- Give: none, or what is given. -/
def gvD (d : UInt8) (t : List UInt8) : Option (List UInt8) := if d = 92 ∨ d = 10 then none else if okT d t = true then some (gvT d t) else none
def rplD (d : UInt8) (t : List UInt8) : List UInt8 := t.flatMap fun c => if c = d then [92, d] else [c]
theorem gv_prog (d : UInt8) (t : List UInt8) : gvD d t = match tkD d (rplD d t ++ [d]) with
    | none => none
    | some (x, n) => if x = t then some (rplD d t) else none := by
  unfold gvD tkD
  by_cases hd : d = 92 ∨ d = 10
  · rw [if_pos hd, if_pos hd]
  · rw [if_neg hd, if_neg hd]
    have h1 : d ≠ 92 := fun h => hd (.inl h)
    have h2 : d ≠ 10 := fun h => hd (.inr h)
    by_cases ho : okT d t = true
    · obtain ⟨a, _, g⟩ := gv_all d h1 h2 _ t (Nat.le_refl _) ho
      have g' : rplD d t = gvT d t := g
      rw [if_pos ho, g', a]; simp
    · rw [if_neg ho]
      cases hq : tkP d (rplD d t ++ [d]) with
      | none => rfl
      | some x =>
        obtain ⟨x, n⟩ := x
        have := tk_ok d h1 h2 _ _ (Nat.le_refl _) x n hq
        simp only
        rw [if_neg (fun e : x = t => ho (e ▸ this))]
theorem gv_ref (d : UInt8) (t : List UInt8) : gvD d t = match tkD d (gvR d t ++ [d]) with
    | none => none
    | some (x, n) => if x = t ∧ n = (gvR d t).length + 1 then some (gvR d t) else none := by
  unfold gvD tkD
  by_cases hd : d = 92 ∨ d = 10
  · rw [if_pos hd, if_pos hd]
  · rw [if_neg hd, if_neg hd]
    have h1 : d ≠ 92 := fun h => hd (.inl h)
    have h2 : d ≠ 10 := fun h => hd (.inr h)
    by_cases ho : okT d t = true
    · obtain ⟨a, g, _⟩ := gv_all d h1 h2 _ t (Nat.le_refl _) ho
      rw [if_pos ho, g, a]; simp
    · rw [if_neg ho]
      cases hq : tkP d (gvR d t ++ [d]) with
      | none => rfl
      | some x =>
        obtain ⟨x, n⟩ := x
        have := tk_ok d h1 h2 _ _ (Nat.le_refl _) x n hq
        simp only
        rw [if_neg (fun e : x = t ∧ n = (gvR d t).length + 1 => ho (e.1 ▸ this))]
theorem rplD_len (d : UInt8) : ∀ t : List UInt8, (rplD d t).length ≤ 2 * t.length
  | [] => by simp [rplD]
  | c :: r => by
    have := rplD_len d r
    unfold rplD at this ⊢
    rw [List.flatMap_cons, List.length_append, List.length_cons]
    split <;> simp only [List.length_cons, List.length_nil] <;> omega
theorem gvT_len (d : UInt8) : ∀ (k : Nat) (t : List UInt8), t.length ≤ k → (gvT d t).length ≤ 2 * t.length
  | 0, t, hk => by
    obtain rfl : t = [] := List.eq_nil_of_length_eq_zero (by omega)
    rw [gvT]; simp
  | k + 1, [], hk => by rw [gvT]; simp
  | k + 1, c :: r, hk => by
    simp only [List.length_cons] at hk
    rw [gvT.eq_def]; simp only
    split
    · have := gvT_len d k r (by omega)
      simp only [List.length_cons]; omega
    · split
      · cases r with
        | nil => simp
        | cons x r' =>
          have := gvT_len d k r' (by simp only [List.length_cons] at hk; omega)
          simp only [List.length_cons]; omega
      · have := gvT_len d k r (by omega)
        simp only [List.length_cons]; omega
theorem gvR_len (d : UInt8) : ∀ (k : Nat) (t : List UInt8), t.length ≤ k → (gvR d t).length ≤ 2 * t.length
  | 0, t, hk => by
    obtain rfl : t = [] := List.eq_nil_of_length_eq_zero (by omega)
    simp [gvR]
  | k + 1, [], hk => by simp [gvR]
  | k + 1, [c], hk => by rw [gvR]; split <;> simp
  | k + 1, c :: e :: r, hk => by
    simp only [List.length_cons] at hk
    have e1 : (if c = d then [92, c] else [c] : List UInt8).length ≤ 2 := by split <;> simp
    have h1 := gvR_len d k r (by omega)
    have h2 := gvR_len d k (e :: r) (by simp only [List.length_cons]; omega)
    simp only [List.length_cons] at h2
    rw [gvR_two, List.length_append]
    have e2 : (if c = 92 then e :: gvR d r else gvR d (e :: r)).length ≤ 2 * r.length + 2 := by
      split
      · simp only [List.length_cons]; omega
      · omega
    simp only [List.length_cons]
    omega
/-- Two bytes replaced, and the first one told: what is untold. -/
theorem ut_false : ∀ l : List UInt8, utP false l = l.flatMap fun c => if c = 92 ∨ c = 10 then [92, c] else [c]
  | [] => by simp [utP]
  | c :: r => by
    have ih := ut_false r
    rw [utP, List.flatMap_cons, ← ih]
    by_cases h : c = 92 ∨ c = 10
    · rw [if_pos (by rcases h with h | h <;> simp [h]), if_pos h]; rfl
    · rw [if_neg (by simp; exact ⟨fun q => h (.inl q), fun q => h (.inr q)⟩), if_neg h]; rfl
theorem ut_two (l : List UInt8) : rplD 10 (rplD 92 l) = utP false l := by
  rw [ut_false]
  induction l with
  | nil => rfl
  | cons c r ih =>
    unfold rplD at ih ⊢
    rw [List.flatMap_cons, List.flatMap_append, ih, List.flatMap_cons]
    by_cases h : c = 92
    · subst h; simp
    · by_cases h2 : c = 10
      · subst h2; simp
      · simp [h, h2]
theorem ut_true : ∀ l : List UInt8, utP true l = match utP false l with
    | [] => []
    | c :: r => if isBl c = true then 92 :: c :: r else c :: r
  | [] => by simp [utP]
  | c :: r => by
    rw [utP, utP]
    by_cases h : c = 92 ∨ c = 10
    · rw [if_pos (by rcases h with h | h <;> simp [h]), if_pos (by rcases h with h | h <;> simp [h])]
      simp only
      rw [if_neg (by decide)]
    · rw [if_neg (by simp; exact ⟨fun q => h (.inl q), fun q => h (.inr q)⟩ : ¬ (c = 92 ∨ c = 10 ∨ (false = true ∧ isBl c = true)))]
      simp only
      by_cases hb : isBl c = true
      · rw [if_pos (by simp [hb]), if_pos hb]
      · rw [if_neg (by simp [hb]; exact ⟨fun q => h (.inl q), fun q => h (.inr q)⟩), if_neg hb]
end Go.Proofs.YtagjoebggghknaaDoor
