/- Clone of a list of nodes. -/
import Derived.Test.YtjnedhjpgefbpaaGreatDoorZRxK
import Derived.Test.YtjnedhjpgefbpaaGreatDoorZSetZ
import Derived.Test.YtjnedhjpgefbpaaGreatDoorZRxU
namespace Go.Proofs.YtjnedhjpgefbpaaGreatDoor
open Go.RowKit
set_option linter.unusedVariables false
set_option linter.unusedSimpArgs false

theorem infoNd : (Tryz.prog.info? 46).map (fun i => (i.zero, i.size, i.bytes)) = some (some (.agg #[.int .i64 0, .int .u64 0, .int .u64 0, .int .u64 0, .int .u64 0, .int .i64 0, .int .i64 0, .int .i64 0, .int .i64 0, .int .i64 0]), 10, 80) := by kernel_rfl

/-- The cells of a list of nodes, one behind the other. -/
def flat (xs : List Nd) : List Value := xs.flatMap fun x => x.cells.toList
theorem flat_len : ∀ xs : List Nd, (flat xs).length = xs.length * 10
  | [] => rfl
  | x :: xs => by
    have := flat_len xs
    simp only [flat, List.flatMap_cons, List.length_append, List.length_cons] at *
    have h : x.cells.toList.length = 10 := rfl
    omega
theorem flat_at : ∀ (xs : List Nd) (j : Nat), j < xs.length * 10 → ∃ (i r : Nat) (x : Nd), xs[i]? = some x ∧ r < 10 ∧ j = i * 10 + r ∧ (flat xs)[j]? = x.cells[r]?
  | [], j, h => by simp at h
  | x :: xs, j, h => by
    have hl : x.cells.toList.length = 10 := rfl
    by_cases hj : j < 10
    · refine ⟨0, j, x, rfl, hj, by omega, ?_⟩
      simp only [flat, List.flatMap_cons]
      rw [List.getElem?_append_left (by omega)]
      simp
    · obtain ⟨i, r, y, h1, h2, h3, h4⟩ := flat_at xs (j - 10) (by simp only [List.length_cons] at h; omega)
      refine ⟨i + 1, r, y, h1, h2, by omega, ?_⟩
      simp only [flat, List.flatMap_cons] at h4 ⊢
      rw [List.getElem?_append_right (by omega), hl]
      exact h4
theorem flat_get (xs : List Nd) (i r : Nat) (x : Nd) (hx : xs[i]? = some x) (hr : r < 10) : (flat xs)[i * 10 + r]? = x.cells[r]? := by
  have hi : i < xs.length := (List.getElem?_eq_some_iff.1 hx).1
  obtain ⟨i', r', y, h1, h2, h3, h4⟩ := flat_at xs (i * 10 + r) (by omega)
  obtain rfl : i' = i := by omega
  obtain rfl : r' = r := by omega
  rw [hx] at h1
  cases h1
  exact h4

/-- A row of nodes of the call's own. -/
structure NRow (w : World) (g n : Nat) (xs : List Nd) : Prop where
  row : ∃ cur, w.heap[g]? = some (.cells cur 46 (0, 0)) ∧ ∀ (i r : Nat) (x : Nd), xs[i]? = some x → r < 10 → cur[i * 10 + r]? = x.cells[r]?

end Go.Proofs.YtjnedhjpgefbpaaGreatDoor

namespace Go.Proofs.YtjnedhjpgefbpaaGreatDoor
open Go.RowKit
set_option linter.unusedVariables false
set_option linter.unusedSimpArgs false

/-- A node with its set folded. -/
def foldNd (x : Nd) : Nd := { x with w0 := wd (foldF x.set) 0, w1 := wd (foldF x.set) 1, w2 := wd (foldF x.set) 2, w3 := wd (foldF x.set) 3 }

theorem set4_get (cur : Array Value) (j : Nat) (a0 a1 a2 a3 : Value) (h : j + 3 < cur.size) (m : Nat) :
    ((((cur.setIfInBounds j a0).setIfInBounds (j + 1) a1).setIfInBounds (j + 2) a2).setIfInBounds (j + 3) a3)[m]? = if m = j then some a0 else if m = j + 1 then some a1 else if m = j + 2 then some a2 else if m = j + 3 then some a3 else cur[m]? := by
  simp only [Array.getElem?_setIfInBounds, Array.size_setIfInBounds]
  by_cases e0 : m = j
  · subst e0
    rw [if_neg (by omega), if_neg (by omega), if_neg (by omega), if_pos rfl, if_pos (by omega), if_pos rfl]
  by_cases e1 : m = j + 1
  · subst e1
    rw [if_neg (by omega), if_neg (by omega), if_pos rfl, if_pos (by omega), if_neg (by omega), if_pos rfl]
  by_cases e2 : m = j + 2
  · subst e2
    rw [if_neg (by omega), if_pos rfl, if_pos (by omega), if_neg (by omega), if_neg (by omega), if_pos rfl]
  by_cases e3 : m = j + 3
  · subst e3
    rw [if_pos rfl, if_pos (by omega), if_neg (by omega), if_neg (by omega), if_neg (by omega), if_pos rfl]
  rw [if_neg (by omega), if_neg (by omega), if_neg (by omega), if_neg (by omega), if_neg e0, if_neg e1, if_neg e2, if_neg e3]

/-- The row behind k rounds. -/
def FRow (w : World) (g : Nat) (xs : List Nd) (k : Nat) : Prop :=
  ∃ cur, w.heap[g]? = some (.cells cur 46 (0, 0)) ∧ ∀ (i r : Nat) (x : Nd), xs[i]? = some x → r < 10 → cur[i * 10 + r]? = (if i < k then foldNd x else x).cells[r]?
theorem FRow.below {w w' : World} {g k : Nat} {xs : List Nd} (h : FRow w g xs k) (hB : Below w.heap.size w w') : FRow w' g xs k := by
  obtain ⟨cur, h1, h2⟩ := h
  exact ⟨cur, (hB.block g (Array.getElem?_eq_some_iff.1 h1).1).trans h1, h2⟩
theorem FRow.lt {w : World} {g k : Nat} {xs : List Nd} (h : FRow w g xs k) : g < w.heap.size := by
  obtain ⟨cur, h1, h2⟩ := h
  exact (Array.getElem?_eq_some_iff.1 h1).1
theorem FRow.cell {w : World} {g k : Nat} {xs : List Nd} (h : FRow w g xs k) (x : Nd) (hx : xs[k]? = some x) (r : Nat) (hr : r < 10) : w.cell? ⟨g, k * 10 + r, none⟩ = x.cells[r]? := by
  obtain ⟨cur, h1, h2⟩ := h
  rw [cell_of _ _ _ _ h1, h2 k r x hx hr, if_neg (by omega)]
theorem FRow.fz {w : World} {g k : Nat} {xs : List Nd} (h : FRow w g xs k) (j : Nat) : w.frozen? ⟨g, j, none⟩ = false := by
  obtain ⟨cur, h1, h2⟩ := h
  exact frozen_of _ _ _ _ h1 j
set_option maxHeartbeats 4000000 in
theorem FRow.step {w : World} {g k : Nat} {xs : List Nd} (h : FRow w g xs k) (x : Nd) (hx : xs[k]? = some x) :
    FRow ((((w.setCell ⟨g, k * 10 + 1, none⟩ (.int .u64 (wd (foldF x.set) 0))).setCell ⟨g, k * 10 + 2, none⟩ (.int .u64 (wd (foldF x.set) 1))).setCell ⟨g, k * 10 + 3, none⟩ (.int .u64 (wd (foldF x.set) 2))).setCell ⟨g, k * 10 + 4, none⟩ (.int .u64 (wd (foldF x.set) 3))) g xs (k + 1) := by
  obtain ⟨cur, h1, h2⟩ := h
  have a := heap_setCell_same _ g (k * 10 + 1) _ _ (.int .u64 (wd (foldF x.set) 0)) h1
  have b := heap_setCell_same _ g (k * 10 + 2) _ _ (.int .u64 (wd (foldF x.set) 1)) a
  have c := heap_setCell_same _ g (k * 10 + 3) _ _ (.int .u64 (wd (foldF x.set) 2)) b
  have d := heap_setCell_same _ g (k * 10 + 4) _ _ (.int .u64 (wd (foldF x.set) 3)) c
  refine ⟨_, d, fun i r y hy hr => ?_⟩
  have h9 := h2 k 9 x hx (by omega)
  rw [if_neg (by omega)] at h9
  have hsz : k * 10 + 9 < cur.size := by
    rcases Nat.lt_or_ge (k * 10 + 9) cur.size with q | q
    · exact q
    · rw [Array.getElem?_eq_none q] at h9; simp [Nd.cells] at h9
  rw [show k * 10 + 2 = k * 10 + 1 + 1 from rfl, show k * 10 + 3 = k * 10 + 1 + 2 from rfl, show k * 10 + 4 = k * 10 + 1 + 3 from rfl, set4_get cur (k * 10 + 1) _ _ _ _ (by omega)]
  by_cases e : i = k
  · subst e
    rw [hx] at hy; cases hy
    have e5 : (if i < i + 1 then foldNd x else x) = foldNd x := if_pos (by omega)
    rw [e5]
    have h2' := h2 i r x hx hr
    rw [if_neg (by omega)] at h2'
    rcases (by omega : r = 0 ∨ r = 1 ∨ r = 2 ∨ r = 3 ∨ r = 4 ∨ r = 5 ∨ r = 6 ∨ r = 7 ∨ r = 8 ∨ r = 9) with rfl | rfl | rfl | rfl | rfl | rfl | rfl | rfl | rfl | rfl
    · rw [if_neg (by omega), if_neg (by omega), if_neg (by omega), if_neg (by omega), h2']; simp [foldNd, Nd.cells]
    · rw [if_pos (by omega)]; simp [foldNd, Nd.cells]
    · rw [if_neg (by omega), if_pos (by omega)]; simp [foldNd, Nd.cells]
    · rw [if_neg (by omega), if_neg (by omega), if_pos (by omega)]; simp [foldNd, Nd.cells]
    · rw [if_neg (by omega), if_neg (by omega), if_neg (by omega), if_pos (by omega)]; simp [foldNd, Nd.cells]
    all_goals (rw [if_neg (by omega), if_neg (by omega), if_neg (by omega), if_neg (by omega), h2']; simp [foldNd, Nd.cells])
  · rw [if_neg (by omega), if_neg (by omega), if_neg (by omega), if_neg (by omega), h2 i r y hy hr]
    by_cases q : i < k
    · rw [if_pos q, if_pos (by omega)]
    · rw [if_neg q, if_neg (by omega)]

end Go.Proofs.YtjnedhjpgefbpaaGreatDoor
