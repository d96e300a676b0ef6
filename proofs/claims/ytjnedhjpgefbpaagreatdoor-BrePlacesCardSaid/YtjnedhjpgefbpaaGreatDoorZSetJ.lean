/- The reference's arrays of 256 bools. -/
import Derived.Test.YtjnedhjpgefbpaaGreatDoorZSetQ
import Derived.Deep.WholeRow
import Derived.Test.YtjnedhjpgefbpaaGreatDoorZSetE
import Derived.OwnWalk
namespace Go.Proofs.YtjnedhjpgefbpaaGreatDoor
open Go.RowKit
set_option linter.unusedVariables false
set_option linter.unusedSimpArgs false

def barr (f : Nat → Bool) : Array Value := ((List.range 256).map fun i => Value.bool (f i)).toArray
def bv (f : Nat → Bool) : Value := .agg (barr f)
theorem barr_size (f : Nat → Bool) : (barr f).size = 256 := by simp [barr]
theorem barr_congr {f g : Nat → Bool} (h : ∀ i, i < 256 → f i = g i) : barr f = barr g := by
  unfold barr
  congr 1
  apply List.map_congr_left
  intro i hi
  rw [h i (by simpa using hi)]
theorem barr_at (f : Nat → Bool) (j : Nat) (h : j < 256) : (barr f)[j]? = some (.bool (f j)) := by simp [barr, h]
theorem barr_set (f : Nat → Bool) (j : Nat) (v : Bool) : (barr f).setIfInBounds j (.bool v) = barr (fun i => if i = j then v else f i) := by
  apply Array.ext_getElem?
  intro i
  rw [Array.getElem?_setIfInBounds]
  by_cases hi : i < 256
  · rw [barr_at _ i hi, barr_at _ i hi, barr_size]
    by_cases e : j = i
    · subst e; simp [hi]
    · have e' : ¬ i = j := fun h => e h.symm
      simp [e, e']
  · have h1 : (barr f)[i]? = none := Array.getElem?_eq_none (by rw [barr_size]; omega)
    have h2 : (barr fun k => if k = j then v else f k)[i]? = none := Array.getElem?_eq_none (by rw [barr_size]; omega)
    rw [h1, h2, barr_size]
    split <;> first | rfl | (split <;> first | rfl | omega)
theorem barr_all (f : Nat → Bool) : (barr f).all (·.oneCell') = true := by
  simp [barr, Value.oneCell']
section
variable {W : World} {b : Nat} {f : Nat → Bool}
theorem Below.setRow {B : Nat} {a w : World} (h : Below B a w) {b : Nat} (hb : B ≤ b) (c : Array Value) : Below B a (w.setRow b c) :=
  h.trans ⟨rfl, rfl, rfl, by simp [World.setRow], fun k hk => by
    show (w.heap.modify b _)[k]? = _
    rw [Array.getElem?_modify, if_neg (by omega)]⟩
end

end Go.Proofs.YtjnedhjpgefbpaaGreatDoor

namespace Go.Proofs.YtjnedhjpgefbpaaGreatDoor
open Go.RowKit
set_option linter.unusedVariables false
set_option linter.unusedSimpArgs false

def wk (f : Nat → Bool) (m k : Nat) : Nat := wd f m / 2 ^ (min 64 (k - 64 * m))
theorem wk_zero (f : Nat → Bool) (m : Nat) : wk f m 0 = wd f m := by simp [wk]
theorem wk_all (f : Nat → Bool) (m : Nat) (hm : m < 4) : wk f m 256 = 0 := by
  unfold wk
  rw [show min 64 (256 - 64 * m) = 64 by omega]
  exact Nat.div_eq_of_lt (wd_lt f m)
theorem wk_same (f : Nat → Bool) (m i : Nat) (h : m ≠ i / 64) : wk f m (i + 1) = wk f m i := by
  unfold wk
  congr 2
  rcases Nat.lt_or_gt_of_ne h with h1 | h1
  · have : 64 * m + 64 ≤ i := by omega
    omega
  · have : i + 1 ≤ 64 * m := by omega
    omega
theorem wk_step (f : Nat → Bool) (i : Nat) : wk f (i / 64) i = 2 * wk f (i / 64) (i + 1) + (f i).toNat := by
  unfold wk
  have e1 : min 64 (i - 64 * (i / 64)) = i % 64 := by omega
  have e2 : min 64 (i + 1 - 64 * (i / 64)) = i % 64 + 1 := by omega
  have hb := wd_has f (i / 64) (i % 64) (by omega)
  rw [show 64 * (i / 64) + i % 64 = i by omega] at hb
  rw [e1, e2, ← hb, Nat.pow_succ, ← Nat.div_div_eq_div_mul]
  omega
theorem wk_lt (f : Nat → Bool) (m k : Nat) : wk f m k < 18446744073709551616 := Nat.lt_of_le_of_lt (Nat.div_le_self _ _) (wd_lt f m)

end Go.Proofs.YtjnedhjpgefbpaaGreatDoor

namespace Go.Proofs.YtjnedhjpgefbpaaGreatDoor
open Go.RowKit
set_option linter.unusedVariables false
set_option linter.unusedSimpArgs false

theorem wk_half (f : Nat → Bool) (i : Nat) : wk f (i / 64) i / 2 = wk f (i / 64) (i + 1) := by
  have := wk_step f i
  cases hv : f i <;> rw [hv] at this <;> simp at this <;> omega
theorem wk_odd (f : Nat → Bool) (i : Nat) : wk f (i / 64) i % 2 = (f i).toNat := by
  have := wk_step f i
  cases hv : f i <;> rw [hv] at this <;> simp at this <;> simp <;> omega

end Go.Proofs.YtjnedhjpgefbpaaGreatDoor

namespace Go.Proofs.YtjnedhjpgefbpaaGreatDoor
open Go.RowKit
set_option linter.unusedVariables false
set_option linter.unusedSimpArgs false

/-- Folded for the letters below k. -/
def part (f : Nat → Bool) (k j : Nat) : Bool := if (65 ≤ j ∧ j < k) ∨ (97 ≤ j ∧ j < k + 32) then foldF f j else f j
theorem part_start (f : Nat → Bool) (j : Nat) : part f 65 j = f j := by
  have e : ¬ ((65 ≤ j ∧ j < 65) ∨ (97 ≤ j ∧ j < 65 + 32)) := by omega
  rw [part, if_neg e]
theorem part_done (f : Nat → Bool) (j : Nat) : part f 91 j = foldF f j := by
  unfold part
  by_cases e : (65 ≤ j ∧ j < 91) ∨ (97 ≤ j ∧ j < 91 + 32)
  · rw [if_pos e]
  · rw [if_neg e]
    have h1 : ¬ (65 ≤ j ∧ j ≤ 90) := by omega
    have h2 : ¬ (97 ≤ j ∧ j ≤ 122) := by omega
    simp [foldF, oth, h1, h2]
theorem part_step (f : Nat → Bool) (k : Nat) (h0 : 65 ≤ k) (h1 : k ≤ 90) (j : Nat) :
    (if j = k + 32 then (f k || f (k + 32)) else if j = k then (f k || f (k + 32)) else part f k j) = part f (k + 1) j := by
  by_cases e1 : j = k + 32
  · subst e1
    have a1 : oth (k + 32) = k := by
      have n1 : ¬ (65 ≤ k + 32 ∧ k + 32 ≤ 90) := by omega
      rw [oth, if_neg n1, if_pos (by omega)]; omega
    rw [if_pos rfl, part, if_pos (by omega), foldF, a1, Bool.or_comm]
  · by_cases e2 : j = k
    · subst e2
      have a1 : oth j = j + 32 := by rw [oth, if_pos (by omega)]
      rw [if_neg e1, if_pos rfl, part, if_pos (by omega), foldF, a1]
    · rw [if_neg e1, if_neg e2, part, part]
      by_cases e : (65 ≤ j ∧ j < k) ∨ (97 ≤ j ∧ j < k + 32)
      · rw [if_pos e, if_pos (by omega)]
      · rw [if_neg e, if_neg (by omega)]

end Go.Proofs.YtjnedhjpgefbpaaGreatDoor

namespace Go.Proofs.YtjnedhjpgefbpaaGreatDoor
open Go.RowKit
set_option linter.unusedVariables false
set_option linter.unusedSimpArgs false

theorem own_ne {W : World} {base k n : Nat} {v : Value} {xs : List Value} (h : W.ownsRow base 5 1 v k xs) (hn : n < base) : v.ownBlock ≠ some n := by
  rcases h.2 with ⟨rfl, _⟩ | ⟨g, cap, cur, rfl, hb, _⟩
  · simp [Value.ownBlock]
  · intro e
    have : g = n := by simpa [Value.ownBlock] using e
    omega
theorem own_ge {W : World} {base k n : Nat} {v : Value} {xs : List Value} (h : W.ownsRow base 5 1 v k xs) (hn : v.ownBlock = some n) : base ≤ n := by
  rcases h.2 with ⟨rfl, _⟩ | ⟨g, cap, cur, rfl, hb, _⟩
  · simp [Value.ownBlock] at hn
  · have : g = n := by simpa [Value.ownBlock] using hn
    omega

end Go.Proofs.YtjnedhjpgefbpaaGreatDoor
