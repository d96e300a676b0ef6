/- Pieces of a script, of no program: what is taken, given, told, untold. -/
import Derived.Lib.Strings
namespace Go.Proofs.YtagjoebggghknaaDoor
set_option linter.unusedVariables false
set_option linter.unusedSimpArgs false

/-- What is taken of a text up to d, and how many bytes that reads (d among them); none: there is no such piece. -/
def tkP (d : UInt8) : List UInt8 → Option (List UInt8 × Nat)
  | [] => none
  | c :: r =>
    if c = d then some ([], 1) else if c = 10 then none else if c = 92 then
      match r with
      | [] => none
      | e :: r' => (tkP d r').map fun x => (if e = d then e :: x.1 else 92 :: e :: x.1, x.2 + 2)
    else (tkP d r).map fun x => (c :: x.1, x.2 + 1)
/-- What is given for a text. -/
def gvP (d : UInt8) : List UInt8 → List UInt8
  | [] => []
  | c :: r =>
    if c = d then 92 :: c :: gvP d r else if c = 92 then
      match r with
      | [] => [92]
      | e :: r' => 92 :: e :: gvP d r'
    else c :: gvP d r
/-- Lines of text: what is told (without the byte 10 behind all), and how many bytes that reads. -/
def txP : List UInt8 → Option (List UInt8 × Nat)
  | [] => some ([], 0)
  | c :: r =>
    if c = 10 then some ([], 1) else if c = 92 then
      match r with
      | [] => none
      | e :: r' => (txP r').map fun x => (e :: x.1, x.2 + 2)
    else (txP r).map fun x => (c :: x.1, x.2 + 1)
def isBl (c : UInt8) : Bool := c == 32 || c == 9
def utP (f : Bool) : List UInt8 → List UInt8
  | [] => []
  | c :: r => if c = 92 ∨ c = 10 ∨ (f = true ∧ isBl c = true) then 92 :: c :: utP false r else c :: utP false r
def isDgt (c : UInt8) : Bool := decide (48 ≤ c.toNat) && decide (c.toNat ≤ 57)
/-- Blanks: how many stand first. -/
def blP (l : List UInt8) : Nat := (l.takeWhile isBl).length
/-- A number's digits: how many, and what they tell, at most 1000000000. -/
def dgP (l : List UInt8) : List UInt8 := l.takeWhile isDgt
def nmP (l : List UInt8) : Nat := (dgP l).foldl (fun n c => min (n * 10 + (c.toNat - 48)) 1000000000) 0
/-- A word: how many bytes ahead of its end; what it is. -/
def wnP (ends l : List UInt8) : Nat := (l.takeWhile fun c => !(c == 10 || ends.contains c)).length
def wdP (ends l : List UInt8) : List UInt8 := ((l.take (wnP ends l)).reverse.dropWhile isBl).reverse

theorem tk_nil (d : UInt8) : tkP d [] = none := by rw [tkP]
theorem tk_end (d : UInt8) (r : List UInt8) : tkP d (d :: r) = some ([], 1) := by rw [tkP.eq_def]; simp
theorem tk_bs1 (d : UInt8) (hd : d ≠ 92) : tkP d [92] = none := by
  rw [tkP, if_neg (fun h => hd h.symm), if_neg (by decide), if_pos rfl]
theorem tk_bs (d e : UInt8) (r : List UInt8) (hd : d ≠ 92) : tkP d (92 :: e :: r) = (tkP d r).map fun x => (if e = d then e :: x.1 else 92 :: e :: x.1, x.2 + 2) := by
  rw [tkP, if_neg (fun h => hd h.symm), if_neg (by decide), if_pos rfl]
theorem tk_nl (d : UInt8) (r : List UInt8) (hd : d ≠ 10) : tkP d (10 :: r) = none := by
  rw [tkP.eq_def]; simp only; rw [if_neg (fun h => hd h.symm), if_pos trivial]
theorem tk_at (d c : UInt8) (r : List UInt8) (h1 : c ≠ d) (h2 : c ≠ 10) (h3 : c ≠ 92) : tkP d (c :: r) = (tkP d r).map fun x => (c :: x.1, x.2 + 1) := by
  rw [tkP.eq_def]; simp only; rw [if_neg h1, if_neg h2, if_neg h3]

/-- What is taken ends with d, within the text; and what stands behind it changes nothing. -/
theorem tk_ends (d : UInt8) (hd : d ≠ 92) (hd2 : d ≠ 10) : ∀ (k : Nat) (l : List UInt8), l.length ≤ k → ∀ t n, tkP d l = some (t, n) →
    1 ≤ n ∧ n ≤ l.length ∧ l[n - 1]? = some d ∧ ∀ rest, tkP d (l.take n ++ rest) = some (t, n)
  | 0, l, hk, t, n, h => by
    obtain rfl : l = [] := List.eq_nil_of_length_eq_zero (by omega)
    rw [tk_nil] at h; cases h
  | k + 1, [], hk, t, n, h => by rw [tk_nil] at h; cases h
  | k + 1, c :: r, hk, t, n, h => by
    by_cases h1 : c = d
    · subst h1
      rw [tk_end] at h
      cases h
      exact ⟨by omega, by simp, rfl, fun rest => tk_end _ _⟩
    · by_cases h2 : c = 10
      · subst h2; rw [tk_nl d r hd2] at h; cases h
      · by_cases h3 : c = 92
        · subst h3
          cases r with
          | nil => rw [tk_bs1 d hd] at h; cases h
          | cons e r' =>
            rw [tk_bs d e r' hd] at h
            cases hr : tkP d r' with
            | none => rw [hr] at h; cases h
            | some x =>
              obtain ⟨t', n'⟩ := x
              rw [hr] at h
              simp only [Option.map_some, Option.some.injEq, Prod.mk.injEq] at h
              obtain ⟨ht, hn⟩ := h
              obtain ⟨a1, a2, a3, a4⟩ := tk_ends d hd hd2 k r' (by simp only [List.length_cons] at hk; omega) t' n' hr
              subst hn
              refine ⟨by omega, by simp only [List.length_cons]; omega, ?_, fun rest => ?_⟩
              · rw [show n' + 2 - 1 = (n' - 1) + 1 + 1 by omega, List.getElem?_cons_succ, List.getElem?_cons_succ]; exact a3
              · rw [List.take_succ_cons, List.take_succ_cons, List.cons_append, List.cons_append, tk_bs d e _ hd, a4 rest]
                simp only [Option.map_some, ht]
        · rw [tk_at d c r h1 h2 h3] at h
          cases hr : tkP d r with
          | none => rw [hr] at h; cases h
          | some x =>
            obtain ⟨t', n'⟩ := x
            rw [hr] at h
            simp only [Option.map_some, Option.some.injEq, Prod.mk.injEq] at h
            obtain ⟨ht, hn⟩ := h
            obtain ⟨a1, a2, a3, a4⟩ := tk_ends d hd hd2 k r (by simp only [List.length_cons] at hk; omega) t' n' hr
            subst hn
            refine ⟨by omega, by simp only [List.length_cons]; omega, ?_, fun rest => ?_⟩
            · rw [show n' + 1 - 1 = (n' - 1) + 1 by omega, List.getElem?_cons_succ]; exact a3
            · rw [List.take_succ_cons, List.cons_append, tk_at d c _ h1 h2 h3, a4 rest]
              simp only [Option.map_some, ht]
theorem tk_rest {d : UInt8} (hd : d ≠ 92) (hd2 : d ≠ 10) {s t : List UInt8} (h : tkP d (s ++ [d]) = some (t, s.length + 1)) (rest : List UInt8) : tkP d (s ++ d :: rest) = some (t, s.length + 1) := by
  have h4 := (tk_ends d hd hd2 _ _ (Nat.le_refl _) _ _ h).2.2.2 rest
  rw [List.take_of_length_le (by simp), List.append_assoc] at h4
  exact h4

theorem tx_bs (e : UInt8) (r : List UInt8) : txP (92 :: e :: r) = (txP r).map fun x => (e :: x.1, x.2 + 2) := by
  rw [txP, if_neg (by decide), if_pos rfl]
theorem tx_nl (r : List UInt8) : txP (10 :: r) = some ([], 1) := by
  rw [txP.eq_def]; simp only; rw [if_pos trivial]
theorem tx_at (c : UInt8) (r : List UInt8) (h1 : c ≠ 10) (h2 : c ≠ 92) : txP (c :: r) = (txP r).map fun x => (c :: x.1, x.2 + 1) := by
  rw [txP.eq_def]; simp only; rw [if_neg h1, if_neg h2]
/-- What is untold is told: with a byte 10 and more behind it, and with nothing. -/
theorem tx_ut (rest : List UInt8) : ∀ (l : List UInt8) (f : Bool), txP (utP f l ++ 10 :: rest) = some (l, (utP f l).length + 1)
  | [], f => by rw [utP]; exact tx_nl rest
  | c :: r, f => by
    rw [utP]
    by_cases h : c = 92 ∨ c = 10 ∨ (f = true ∧ isBl c = true)
    · rw [if_pos h, List.cons_append, List.cons_append, tx_bs, tx_ut rest r false]
      rfl
    · rw [if_neg h, List.cons_append, tx_at c _ (fun q => h (Or.inr (Or.inl q))) (fun q => h (Or.inl q)), tx_ut rest r false]
      rfl
theorem tx_ut0 : ∀ (l : List UInt8) (f : Bool), txP (utP f l) = some (l, (utP f l).length)
  | [], f => by rw [utP, txP]; rfl
  | c :: r, f => by
    rw [utP]
    by_cases h : c = 92 ∨ c = 10 ∨ (f = true ∧ isBl c = true)
    · rw [if_pos h, tx_bs, tx_ut0 r false]
      rfl
    · rw [if_neg h, tx_at c _ (fun q => h (Or.inr (Or.inl q))) (fun q => h (Or.inl q)), tx_ut0 r false]
      rfl
theorem ut_len : ∀ (l : List UInt8) (f : Bool), (utP f l).length ≤ 2 * l.length
  | [], f => by rw [utP]; simp
  | c :: r, f => by
    have := ut_len r false
    rw [utP]; split <;> simp only [List.length_cons] <;> omega
theorem gv_len (d : UInt8) : ∀ (k : Nat) (l : List UInt8), l.length ≤ k → (gvP d l).length ≤ 2 * l.length
  | 0, l, h => by
    obtain rfl : l = [] := List.eq_nil_of_length_eq_zero (by omega)
    rw [gvP]; simp
  | k + 1, [], h => by rw [gvP]; simp
  | k + 1, [c], h => by
    rw [gvP.eq_def]; simp only
    split
    · rw [gvP]; simp
    · split
      · simp
      · rw [gvP]; simp
  | k + 1, c :: e :: r, h => by
    simp only [List.length_cons] at h
    have h1 := gv_len d k (e :: r) (by simp only [List.length_cons]; omega)
    have h2 := gv_len d k r (by omega)
    simp only [List.length_cons] at h1
    rw [gvP.eq_def]; simp only
    split
    · simp only [List.length_cons]; omega
    · split <;> simp only [List.length_cons] <;> omega

end Go.Proofs.YtagjoebggghknaaDoor
