/- Trans, of no program: Parse, Print, Make. -/
import Derived.Test.YthnadcmejaciaaaDoorTrB
import Derived.Lib.ReplaceLaws
import Derived.Lib.Replace
import Derived.Lib.IndexBytes
namespace Go.Proofs.YthnadcmejaciaaaDoor
set_option linter.unusedVariables false
set_option linter.unusedSimpArgs false

/-- The byte that a text begins by telling, and how many bytes tell it. -/
def stp : List UInt8 → UInt8 × Nat
  | [] => (0, 0)
  | [c] => if c = 10 ∨ c = 92 then (0, 0) else (c, 1)
  | c :: d :: _ => if c = 10 then (0, 0) else if c ≠ 92 then (c, 1) else if d = 110 then (10, 2) else if d = 92 ∨ d = 47 then (d, 2) else (0, 0)
theorem stp_le (l : List UInt8) : (stp l).2 ≤ l.length := by
  match l with
  | [] => simp [stp]
  | [c] => simp only [stp]; split <;> simp
  | c :: d :: m =>
    simp only [stp, List.length_cons]
    by_cases h1 : c = 10
    · rw [if_pos h1]; simp only; omega
    rw [if_neg h1]
    by_cases h2 : c ≠ 92
    · rw [if_pos h2]; simp only; omega
    rw [if_neg h2]
    by_cases h3 : d = 110
    · rw [if_pos h3]; simp only; omega
    rw [if_neg h3]
    by_cases h4 : d = 92 ∨ d = 47
    · rw [if_pos h4]; simp only; omega
    · rw [if_neg h4]; simp only; omega
def prs : Nat → List UInt8 → Nat → List UInt8 → List UInt8 × Nat × Nat
  | 0, _, _, out => (out, 0, 0)
  | n + 1, l, p, out => if l = [] then (out, 0, 0) else if (stp l).2 = 0 then ([], p, 100) else prs n (l.drop (stp l).2) (p + (stp l).2) (out ++ [(stp l).1])
theorem prs_fuel : ∀ (n m : Nat) (l : List UInt8) (p : Nat) (out : List UInt8), l.length ≤ n → l.length ≤ m → prs n l p out = prs m l p out
  | 0, 0, _, _, _, _, _ => rfl
  | 0, m + 1, l, p, out, h, _ => by
    obtain rfl : l = [] := List.eq_nil_of_length_eq_zero (by omega)
    simp [prs]
  | n + 1, 0, l, p, out, _, h => by
    obtain rfl : l = [] := List.eq_nil_of_length_eq_zero (by omega)
    simp [prs]
  | n + 1, m + 1, l, p, out, h1, h2 => by
    simp only [prs]
    split
    · rfl
    · split
      · rfl
      · rename_i hl h0
        have hlp := List.length_pos_iff.2 hl
        exact prs_fuel n m _ _ _ (by rw [List.length_drop]; omega) (by rw [List.length_drop]; omega)
def parse (s : List UInt8) : List UInt8 × Nat × Nat := prs s.length s 0 []
/-- One step further. -/
theorem prs_step (s : List UInt8) (k : Nat) (out : List UInt8) (hk : k < s.length) : prs (s.length - k) (s.drop k) k out =
    if (stp (s.drop k)).2 = 0 then ([], k, 100) else prs (s.length - (k + (stp (s.drop k)).2)) (s.drop (k + (stp (s.drop k)).2)) (k + (stp (s.drop k)).2) (out ++ [(stp (s.drop k)).1]) := by
  obtain ⟨n, hn⟩ : ∃ n, s.length - k = n + 1 := ⟨s.length - k - 1, by omega⟩
  rw [hn, prs, if_neg (by intro h; have := congrArg List.length h; simp at this; omega)]
  split
  · rfl
  · rw [List.drop_drop]
    exact prs_fuel _ _ _ _ _ (by rw [List.length_drop]; omega) (by rw [List.length_drop]; exact Nat.le_refl _)
theorem prs_end (s out : List UInt8) (k : Nat) (hk : s.length ≤ k) : prs (s.length - k) (s.drop k) k out = (out, 0, 0) := by
  rw [show s.length - k = 0 by omega]; rfl

def pb (c : UInt8) : List UInt8 := if c = 10 then [92, 110] else if c = 92 then [92, 92] else [c]
def prt (s : List UInt8) : List UInt8 := s.flatMap pb
theorem pb_len (c : UInt8) : 1 ≤ (pb c).length ∧ (pb c).length ≤ 2 := by unfold pb; split <;> (try split) <;> simp
theorem prt_len (s : List UInt8) : s.length ≤ (prt s).length ∧ (prt s).length ≤ 2 * s.length := by
  induction s with
  | nil => simp [prt]
  | cons b l ih =>
    have := pb_len b
    have e : prt (b :: l) = pb b ++ prt l := by simp [prt]
    rw [e, List.length_append, List.length_cons]
    omega
theorem stp_pb (b : UInt8) (r : List UInt8) : stp (pb b ++ r) = (b, (pb b).length) := by
  unfold pb
  by_cases h1 : b = 10
  · subst h1; simp [stp]
  · by_cases h2 : b = 92
    · subst h2; simp [stp]
    · rw [if_neg h1, if_neg h2]
      cases r with
      | nil => simp [stp, h1, h2]
      | cons d m => simp [stp, h1, h2]
theorem prs_prt : ∀ (s : List UInt8) (n p : Nat) (out : List UInt8), (prt s).length ≤ n → prs n (prt s) p out = (out ++ s, 0, 0)
  | [], n, p, out, h => by cases n <;> simp [prt, prs]
  | b :: l, n, p, out, h => by
    have e : prt (b :: l) = pb b ++ prt l := by simp [prt]
    have hb := pb_len b
    rw [e] at h ⊢
    rw [List.length_append] at h
    obtain ⟨m, rfl⟩ : ∃ m, n = m + 1 := ⟨n - 1, by omega⟩
    rw [prs, if_neg (by intro hh; have := congrArg List.length hh; simp at this; rw [this.1] at hb; simp at hb), stp_pb, if_neg (by simp only; omega)]
    simp only
    rw [List.drop_left, prs_prt l m _ _ (by omega)]
    simp
theorem parse_print (s : List UInt8) : parse (prt s) = (s, 0, 0) := by
  have := prs_prt s (prt s).length 0 [] (Nat.le_refl _)
  simpa [parse] using this

def rpl (c : UInt8) (new s : List UInt8) : List UInt8 := s.flatMap fun b => if b = c then new else [b]
theorem replaceK_one (c : UInt8) (new : List UInt8) : ∀ s : List UInt8, Lib.replaceK [c] new (Lib.count s [c]) s = rpl c new s
  | [] => by
    rw [Lib.count_one]; simp [Lib.replaceK, rpl]
  | b :: l => by
    have ih := replaceK_one c new l
    by_cases h : b = c
    · subst h
      have hi : Lib.index (b :: l) [b] = ((0 : Nat) : Int) := by rw [Lib.index_one]; simp [Lib.indexByte]
      rw [Lib.count_cons_eq, Nat.add_comm 1, Lib.replaceK_hit _ _ _ _ 0 hi]
      simp only [List.take_zero, List.length_cons, List.length_nil, Nat.zero_add, List.drop_succ_cons, List.drop_zero, List.nil_append]
      rw [ih]
      simp [rpl]
    · have hb : (b == c) = false := by simpa using h
      rw [Lib.count_cons_ne b c l h]
      have er : rpl c new (b :: l) = b :: rpl c new l := by simp [rpl, h]
      rw [er, ← ih]
      by_cases hk : Lib.count l [c] = 0
      · rw [hk]; rfl
      · obtain ⟨i, hi⟩ := Lib.index_of_count (s := l) (old := [c]) (by omega)
        obtain ⟨k, hk2⟩ : ∃ k, Lib.count l [c] = k + 1 := ⟨Lib.count l [c] - 1, by omega⟩
        have hi2 : Lib.index (b :: l) [c] = ((i + 1 : Nat) : Int) := by
          rw [Lib.index_one] at hi ⊢
          simp only [Lib.indexByte, hb, hi, Bool.false_eq_true, if_false]
          rw [if_neg (by simp)]
          simp
        rw [hk2, Lib.replaceK_hit _ _ _ _ i hi, Lib.replaceK_hit _ _ _ _ (i + 1) hi2]
        simp [Nat.add_right_comm]
theorem replaceAll_one (c : UInt8) (new s : List UInt8) (h : [c] ≠ new) : Lib.replaceAll s [c] new = rpl c new s := by
  have hb : ([c] == new) = false := by simpa using h
  have hn : Lib.replaceNum s [c] (-1) = Lib.count s [c] := by unfold Lib.replaceNum; simp
  unfold Lib.replaceAll Lib.replace
  rw [hb, hn, replaceK_one]; simp
theorem print_two (s : List UInt8) : rpl 10 [92, 110] (rpl 92 [92, 92] s) = prt s := by
  induction s with
  | nil => rfl
  | cons b l ih =>
    have e1 : rpl 92 [92, 92] (b :: l) = (if b = 92 then [92, 92] else [b]) ++ rpl 92 [92, 92] l := by simp [rpl]
    have e2 : prt (b :: l) = pb b ++ prt l := by simp [prt]
    have e3 : ∀ x y : List UInt8, rpl 10 [92, 110] (x ++ y) = rpl 10 [92, 110] x ++ rpl 10 [92, 110] y := fun x y => by simp [rpl]
    rw [e1, e2, e3, ih]
    congr 1
    unfold pb
    by_cases h1 : b = 92
    · subst h1; simp [rpl]
    · rw [if_neg h1]; simp [rpl, h1]

/-- What each byte becomes behind the first k bytes of fr. -/
def mkF (fr to : List UInt8) : Nat → Nat → UInt8
  | 0 => fun j => UInt8.ofNat j
  | k + 1 => fun j => if j = (fr.getD k 0).toNat then to.getD k 0 else mkF fr to k j
def dup (fr : List UInt8) (k : Nat) : Bool := (fr.take k).contains (fr.getD k 0)
def mkOk (fr to : List UInt8) : Bool := decide (fr.length = to.length) && (List.range fr.length).all fun k => !dup fr k
theorem mkOk_iff {fr to : List UInt8} : mkOk fr to = true ↔ fr.length = to.length ∧ ∀ k, k < fr.length → dup fr k = false := by
  simp [mkOk]
theorem dup_not {fr : List UInt8} (h : ∀ k, k < fr.length → dup fr k = false) {i k : Nat} (hi : i < k) (hk : k < fr.length) : fr.getD i 0 ≠ fr.getD k 0 := by
  intro e
  have := h k hk
  rw [dup, ← Bool.not_eq_true, List.contains_iff_mem] at this
  apply this
  rw [← e]
  have : (fr.take k)[i]? = some (fr.getD i 0) := by
    rw [List.getElem?_take, if_pos hi, List.getElem?_eq_getElem (by omega)]
    simp [List.getD, List.getElem?_eq_getElem (show i < fr.length by omega)]
  exact List.mem_of_getElem? this
theorem mkF_not (fr to : List UInt8) : ∀ (k : Nat) (b : UInt8), (∀ i, i < k → fr.getD i 0 ≠ b) → mkF fr to k b.toNat = b
  | 0, b, _ => by simp [mkF]
  | k + 1, b, h => by
    simp only [mkF]
    rw [if_neg (fun e => h k (by omega) (UInt8.toNat_inj.1 e.symm))]
    exact mkF_not fr to k b (fun i hi => h i (by omega))
theorem mkF_at (fr to : List UInt8) (hd : ∀ k, k < fr.length → dup fr k = false) : ∀ (k i : Nat), i < k → k ≤ fr.length → mkF fr to k (fr.getD i 0).toNat = to.getD i 0
  | k + 1, i, hi, hk => by
    simp only [mkF]
    by_cases e : i = k
    · subst e; rw [if_pos rfl]
    · rw [if_neg (fun h => dup_not hd (i := i) (k := k) (by omega) (by omega) (UInt8.toNat_inj.1 h))]
      exact mkF_at fr to hd k i (by omega) (by omega)
theorem inverse_of {fr to : List UInt8} (h1 : mkOk fr to = true) (h2 : mkOk to fr = true) (h3 : ∀ i, i < to.length → to.getD i 0 ∈ fr) (b : UInt8) :
    mkF to fr to.length (mkF fr to fr.length b.toNat).toNat = b := by
  obtain ⟨l1, d1⟩ := mkOk_iff.1 h1
  obtain ⟨_, d2⟩ := mkOk_iff.1 h2
  by_cases hb : ∃ i, i < fr.length ∧ fr.getD i 0 = b
  · obtain ⟨i, hi, rfl⟩ := hb
    rw [mkF_at fr to d1 _ i hi (Nat.le_refl _), mkF_at to fr d2 _ i (by omega) (Nat.le_refl _)]
  · have hn : ∀ i, i < fr.length → fr.getD i 0 ≠ b := fun i hi e => hb ⟨i, hi, e⟩
    rw [mkF_not fr to _ b hn]
    refine mkF_not to fr _ b (fun i hi e => ?_)
    have := h3 i hi
    rw [e] at this
    obtain ⟨j, hj, hjb⟩ := List.getElem_of_mem this
    exact hn j hj (by simp [List.getD, List.getElem?_eq_getElem hj, hjb])

end Go.Proofs.YthnadcmejaciaaaDoor
