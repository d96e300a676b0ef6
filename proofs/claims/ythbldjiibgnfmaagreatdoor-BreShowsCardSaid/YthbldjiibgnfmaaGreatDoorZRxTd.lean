/- Clone of a list of nodes. -/
import Derived.Test.YthbldjiibgnfmaaGreatDoorZRxK
import Derived.Test.YthbldjiibgnfmaaGreatDoorZSetZ
namespace Go.Proofs.YthbldjiibgnfmaaGreatDoor
open Go.RowKit
set_option linter.unusedVariables false
set_option linter.unusedSimpArgs false

theorem infoNd : (Tryz.prog.info? 37).map (fun i => (i.zero, i.size, i.bytes)) = some (some (.agg #[.int .i64 0, .int .u64 0, .int .u64 0, .int .u64 0, .int .u64 0, .int .i64 0, .int .i64 0, .int .i64 0, .int .i64 0, .int .i64 0]), 10, 80) := by kernel_rfl

/-- The cells of a list of nodes, one behind the other. -/
def flat (xs : List Nd) : List Value := xs.flatMap fun x => x.cells.toList
theorem flat_at : ∀ (xs : List Nd) (j : Nat), j < xs.length * 10 → ∃ (i r : Nat) (x : Nd), xs[i]? = some x ∧ r < 10 ∧ j = i * 10 + r ∧ (flat xs)[j]? = x.cells[r]?
  | [], j, h => by simp at h
  | x :: xs, j, h => by
    have hl : x.cells.toList.length = 10 := rfl
    by_cases hj : j < 10
    · refine ⟨0, j, x, rfl, hj, by omega, ?_⟩
      simp only [flat, List.flatMap_cons]
      rw [List.getElem?_append_left (by omega)]
      simp
    · obtain ⟨i, r, y, h1, h2, h3, h4⟩ := flat_at xs (j - 10) (by simp only [List.length_cons] at h; omega)
      refine ⟨i + 1, r, y, h1, h2, by omega, ?_⟩
      simp only [flat, List.flatMap_cons] at h4 ⊢
      rw [List.getElem?_append_right (by omega), hl]
      exact h4
theorem flat_get (xs : List Nd) (i r : Nat) (x : Nd) (hx : xs[i]? = some x) (hr : r < 10) : (flat xs)[i * 10 + r]? = x.cells[r]? := by
  have hi : i < xs.length := (List.getElem?_eq_some_iff.1 hx).1
  obtain ⟨i', r', y, h1, h2, h3, h4⟩ := flat_at xs (i * 10 + r) (by omega)
  obtain rfl : i' = i := by omega
  obtain rfl : r' = r := by omega
  rw [hx] at h1
  cases h1
  exact h4

end Go.Proofs.YthbldjiibgnfmaaGreatDoor
