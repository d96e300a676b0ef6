/- Addr, of no program: which lines are meant. -/
import Derived.Lib.Hide
namespace Go.Proofs.YtaamhjjdhebjfaaGreatDoor
set_option linter.unusedVariables false
set_option linter.unusedSimpArgs false

structure Ad where
  k : Int
  n : Int
  m : Int
structure Rg where
  a : Ad
  b : Ad
  not : Bool
theorem Ad.eq {x y : Ad} (h1 : x.k = y.k) (h2 : x.n = y.n) (h3 : x.m = y.m) : x = y := by cases x; cases y; simp_all
theorem Rg.eq {x y : Rg} (h1 : x.a = y.a) (h2 : x.b = y.b) (h3 : x.not = y.not) : x = y := by cases x; cases y; simp_all

/-- Whether it is an address. -/
def isAd (a : Ad) : Bool :=
  if a.k = 0 ∨ a.k = 2 then decide (a.n = 0 ∧ a.m = 0) else if a.k = 1 ∨ a.k = 5 ∨ a.k = 6 then decide (0 ≤ a.n ∧ a.n ≤ 999999999 ∧ a.m = 0)
  else if a.k = 3 then decide (0 ≤ a.n ∧ a.n ≤ 999999999 ∧ 0 ≤ a.m ∧ a.m ≤ 999999999) else if a.k = 4 then decide (0 ≤ a.n ∧ a.n ≤ 999 ∧ a.m = 0) else false
def mayR (r : Rg) : Bool := isAd r.a && isAd r.b && !decide (r.b.k = 3) && !decide (5 ≤ r.a.k) && (!decide (r.a.k = 0) || decide (r.b.k = 0)) && (!decide (r.a.k = 1 ∧ r.a.n = 0) || decide (r.b.k = 4))

theorem isAd_iff {a : Ad} : isAd a = true ↔ ((a.k = 0 ∨ a.k = 2) ∧ a.n = 0 ∧ a.m = 0) ∨ ((a.k = 1 ∨ a.k = 5 ∨ a.k = 6) ∧ 0 ≤ a.n ∧ a.n ≤ 999999999 ∧ a.m = 0) ∨ (a.k = 3 ∧ 0 ≤ a.n ∧ a.n ≤ 999999999 ∧ 0 ≤ a.m ∧ a.m ≤ 999999999) ∨ (a.k = 4 ∧ 0 ≤ a.n ∧ a.n ≤ 999 ∧ a.m = 0) := by
  unfold isAd
  by_cases h1 : a.k = 0 ∨ a.k = 2
  · rw [if_pos h1, decide_eq_true_eq]; omega
  rw [if_neg h1]
  by_cases h2 : a.k = 1 ∨ a.k = 5 ∨ a.k = 6
  · rw [if_pos h2, decide_eq_true_eq]; omega
  rw [if_neg h2]
  by_cases h3 : a.k = 3
  · rw [if_pos h3, decide_eq_true_eq]; omega
  rw [if_neg h3]
  by_cases h4 : a.k = 4
  · rw [if_pos h4, decide_eq_true_eq]; omega
  rw [if_neg h4]
  simp only [Bool.false_eq_true, false_iff]
  omega
theorem mayR_iff {r : Rg} : mayR r = true ↔ isAd r.a = true ∧ isAd r.b = true ∧ r.b.k ≠ 3 ∧ r.a.k < 5 ∧ (r.a.k = 0 → r.b.k = 0) ∧ (r.a.k = 1 → r.a.n = 0 → r.b.k = 4) := by
  unfold mayR
  simp only [Bool.and_eq_true, Bool.or_eq_true, Bool.not_eq_true', decide_eq_false_iff_not, decide_eq_true_eq]
  constructor
  · rintro ⟨⟨⟨⟨⟨h1, h2⟩, h3⟩, h4⟩, h5⟩, h6⟩
    exact ⟨h1, h2, h3, by omega, by omega, by omega⟩
  · rintro ⟨h1, h2, h3, h4, h5, h6⟩
    exact ⟨⟨⟨⟨⟨h1, h2⟩, h3⟩, by omega⟩, by omega⟩, by omega⟩
/-- What the numbers of an address are between. -/
structure Ad.Nums (a : Ad) : Prop where
  k0 : 0 ≤ a.k
  k6 : a.k ≤ 6
  n0 : 0 ≤ a.n
  n9 : a.n ≤ 999999999
  m0 : 0 ≤ a.m
  m9 : a.m ≤ 999999999
theorem isAd.nums {a : Ad} (h : isAd a = true) : a.Nums := by
  rcases isAd_iff.1 h with h | h | h | h <;> constructor <;> omega

def hasAt (H : List Bool) (n : Int) : Bool := decide (0 ≤ n) && H.getD n.toNat false
theorem hasAt_in {H : List Bool} {n : Nat} {b : Bool} (h : H[n]? = some b) : hasAt H (n : Int) = b := by simp [hasAt, h]
theorem hasAt_out {H : List Bool} {n : Int} (h : ¬ (0 ≤ n ∧ n < H.length)) : hasAt H n = false := by
  unfold hasAt
  by_cases h0 : 0 ≤ n
  · have : H[n.toNat]? = none := List.getElem?_eq_none (by omega)
    simp [this]
  · simp [h0]

/-- Whether a line is meant by an address alone. -/
def hitA (a : Ad) (N : Int) (L : Bool) (H : List Bool) : Bool :=
  if a.k = 0 then true else if a.k = 1 then decide (N = a.n) else if a.k = 2 then L
  else if a.k = 3 then (if a.m ≤ 0 then decide (N = a.n) else decide (a.n ≤ N ∧ (N - a.n) % a.m = 0))
  else if a.k = 4 then hasAt H a.n else false
def opn (b : Bool) (t : Int) : Bool × Int := if b then (true, t) else (false, 0)
def mulFrom (N o : Int) : Int := if o ≤ 0 then N else if N % o = 0 then N else N + o - N % o
/-- The state behind the first line of a range. -/
def begA (b : Ad) (N : Int) (L : Bool) : Bool × Int :=
  if b.k = 1 then opn (decide (N < b.n)) b.n else if b.k = 2 then opn (!L) 0 else if b.k = 4 then (true, 0) else if b.k = 5 then opn (decide (0 < b.n)) (N + b.n)
  else if b.k = 6 then opn (decide (mulFrom N b.n ≠ N)) (mulFrom N b.n) else (false, 0)
def endA (b : Ad) (s : Bool × Int) (N : Int) (L : Bool) (H : List Bool) : Bool := if b.k = 2 ∨ b.k = 4 then hitA b N L H else decide (s.2 ≤ N)
def goA (r : Rg) (s : Bool × Int) (N : Int) (L : Bool) (H : List Bool) : Bool × Bool × Int :=
  if r.b.k = 1 ∧ s.2 < N then (hitA r.a N L H, false, 0) else if endA r.b s N L H then (true, false, 0) else (true, s)
def askA (r : Rg) (s : Bool × Int) (N : Int) (L : Bool) (H : List Bool) : Bool × Bool × Int :=
  if r.b.k = 0 then (hitA r.a N L H, s) else if s.1 then goA r s N L H else if (r.a.k = 1 ∧ r.a.n = 0) ∧ N = 1 then goA r (true, 0) N L H
  else if hitA r.a N L H then (true, begA r.b N L) else (false, s)

theorem mulFrom_ge (N o : Int) (h : 0 ≤ N) : N ≤ mulFrom N o ∧ (0 < o → mulFrom N o < N + o) ∧ (mulFrom N o = N ∨ mulFrom N o = N + o - N % o) := by
  unfold mulFrom
  by_cases h1 : o ≤ 0
  · rw [if_pos h1]; omega
  rw [if_neg h1]
  have h2 := Int.emod_lt_of_pos N (show 0 < o by omega)
  have h3 := Int.emod_nonneg N (show o ≠ 0 by omega)
  by_cases h4 : N % o = 0
  · rw [if_pos h4]; omega
  rw [if_neg h4]
  omega

end Go.Proofs.YtaamhjjdhebjfaaGreatDoor
