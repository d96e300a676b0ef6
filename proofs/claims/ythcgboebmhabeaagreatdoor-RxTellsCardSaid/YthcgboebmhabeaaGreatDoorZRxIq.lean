/- A row of nodes of the reference's. -/
import Derived.Test.YthcgboebmhabeaaGreatDoorZRxTe
namespace Go.Proofs.YthcgboebmhabeaaGreatDoor
open Go.RowKit
set_option linter.unusedVariables false
set_option linter.unusedSimpArgs false

theorem infoRn : (Tryz.prog.info? 45).map (fun i => (i.zero, i.size, i.bytes)) = some (some (.agg #[.int .i64 0, .int .u64 0, .int .u64 0, .int .u64 0, .int .u64 0, .int .i64 0, .int .i64 0, .int .i64 0, .int .i64 0, .int .i64 0]), 10, 80) := by kernel_rfl
/-- A row of nodes of the reference's, of the call's own. -/
def RRow (w : World) (B : Nat) (v : Value) (n : Nat) (xs : List Nd) : Prop := w.ownsRow B 45 10 v n (flat xs)
theorem flat_snoc (xs : List Nd) (k : Nat) (x : Nd) (h : xs[k]? = some x) : flat (xs.take (k + 1)) = flat (xs.take k) ++ x.cells.toList := by
  have hk := (List.getElem?_eq_some_iff.1 h)
  obtain ⟨hk, e⟩ := hk
  rw [List.take_succ_eq_append_getElem hk, e]
  simp [flat]

end Go.Proofs.YthcgboebmhabeaaGreatDoor
