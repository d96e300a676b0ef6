/- Cells that are kept; two cells in whatever world. -/
import Derived.Test.YtaamhjjdhebjfaaGreatDoorRows
import Derived.WalkKit
import Derived.WalkLawsBesides
import Derived.OwnWalk
import Derived.Lib.Hide
namespace Go.Proofs.YtaamhjjdhebjfaaGreatDoor
open Go.RowKit
set_option linter.unusedVariables false
set_option linter.unusedSimpArgs false

theorem lt_cell {w : World} {b j : Nat} {v : Value} (h : w.cell? ⟨b, j, none⟩ = some v) : b < w.heap.size := by
  cases hb : w.heap[b]? with
  | none => simp [World.cell?, hb] at h
  | some o => exact (Array.getElem?_eq_some_iff.1 hb).1
theorem cell_keep {w w' : World} {b j : Nat} {v : Value} (hB : Below w.heap.size w w') (h : w.cell? ⟨b, j, none⟩ = some v) : w'.cell? ⟨b, j, none⟩ = some v := (hB.cell (p := ⟨b, j, none⟩) (lt_cell h)).trans h
theorem frozen_of (w : World) (b : Nat) (c : Array Value) (t : TypeId) (h : w.heap[b]? = some (.cells c t (0, 0))) (j : Nat) : w.frozen? ⟨b, j, none⟩ = false := by
  simp [World.frozen?, h]
theorem heap_setCell_same (w : World) (b j : Nat) (cs : Array Value) (t : TypeId) (v : Value) (h : w.heap[b]? = some (.cells cs t (0, 0))) :
    (w.setCell ⟨b, j, none⟩ v).heap[b]? = some (.cells (cs.setIfInBounds j v) t (0, 0)) := by
  simp [World.setCell, Array.getElem?_modify, h]
/-- Two cells, in whatever world. -/
structure Two (w : World) (b : Nat) (t : TypeId) (v0 v1 : Value) : Prop where
  heap : w.heap[b]? = some (.cells #[v0, v1] t (0, 0))
section
variable {w : World} {b : Nat} {t : TypeId} {v0 v1 : Value}
theorem Two.c0 (h : Two w b t v0 v1) : w.cell? ⟨b, 0, none⟩ = some v0 := by simp [World.cell?, h.heap]
theorem Two.c1 (h : Two w b t v0 v1) : w.cell? ⟨b, 1, none⟩ = some v1 := by simp [World.cell?, h.heap]
theorem Two.fz (h : Two w b t v0 v1) (j : Nat) : w.frozen? ⟨b, j, none⟩ = false := by simp [World.frozen?, h.heap]
theorem Two.lt (h : Two w b t v0 v1) : b < w.heap.size := (Array.getElem?_eq_some_iff.1 h.heap).1
theorem Two.below {B : Nat} {w' : World} (h : Two w b t v0 v1) (hB : Below B w w') (hb : b < B) : Two w' b t v0 v1 := ⟨(hB.block b hb).trans h.heap⟩
theorem Two.beside {w' : World} (h : Two w b t v0 v1) (hB : Below w.heap.size w w') : Two w' b t v0 v1 := h.below hB h.lt
theorem Two.alloc (h : Two w b t v0 v1) (o : Obj) : Two (w.alloc o) b t v0 v1 := h.beside ((Below.refl _ w).alloc (Nat.le_refl _) o)
theorem Two.drew (h : Two w b t v0 v1) : Two w.drew b t v0 v1 := ⟨h.heap⟩
theorem Two.s0 (h : Two w b t v0 v1) (u : Value) : Two (w.setCell ⟨b, 0, none⟩ u) b t u v1 := ⟨by rw [heap_setCell_same _ b 0 _ t u h.heap]; rfl⟩
theorem Two.s1 (h : Two w b t v0 v1) (u : Value) : Two (w.setCell ⟨b, 1, none⟩ u) b t v0 u := ⟨by rw [heap_setCell_same _ b 1 _ t u h.heap]; rfl⟩
theorem Two.s (h : Two w b t v0 v1) (x y : Value) : Two ((w.setCell ⟨b, 0, none⟩ x).setCell ⟨b, 1, none⟩ y) b t x y := (h.s0 x).s1 y
theorem Two.other (h : Two w b t v0 v1) {p : Addr} (hp : b ≠ p.block) (u : Value) : Two (w.setCell p u) b t v0 v1 := ⟨(Below.heap_setCell w p u b hp).trans h.heap⟩
theorem Two.new (w : World) (t : TypeId) (v0 v1 : Value) : Two (w.alloc (.cells #[v0, v1] t)) w.heap.size t v0 v1 := ⟨by show (w.heap.push _)[w.heap.size]? = _; simp⟩
end
theorem cell_set1 {w : World} {b b' j k : Nat} {v u : Value} (h : w.cell? ⟨b, j, none⟩ = some v) (hne : b' ≠ b) : (w.setCell ⟨b', k, none⟩ u).cell? ⟨b, j, none⟩ = some v := by
  rw [← h]
  exact World.cell?_of_block (w := w) (a := ⟨b, j, none⟩) (Below.heap_setCell w ⟨b', k, none⟩ u b (fun e => hne e.symm))
theorem cell_set2 {w : World} {b b' j : Nat} {v u0 u1 : Value} (h : w.cell? ⟨b, j, none⟩ = some v) (hne : b' ≠ b) : ((w.setCell ⟨b', 0, none⟩ u0).setCell ⟨b', 1, none⟩ u1).cell? ⟨b, j, none⟩ = some v := cell_set1 (cell_set1 h hne) hne
theorem Below.set2 {B : Nat} {a w : World} (h : Below B a w) {b : Nat} (hb : B ≤ b) (u0 u1 : Value) : Below B a ((w.setCell ⟨b, 0, none⟩ u0).setCell ⟨b, 1, none⟩ u1) :=
  (h.setCell (p := ⟨b, 0, none⟩) hb u0).setCell (p := ⟨b, 1, none⟩) hb u1

end Go.Proofs.YtaamhjjdhebjfaaGreatDoor
