/- What groups have, as a value: None, only, over. -/
import Derived.Test.YtgllmhheahlpjaaGreatDoorJSpanC
set_option linter.unusedVariables false
set_option linter.unusedSimpArgs false
set_option maxRecDepth 100000
set_option maxHeartbeats 40000000
namespace Go.Proofs.YtgllmhheahlpjaaGreatDoor
open Go.RowKit
def spV : Option (Nat × Nat) → Value
 | some (a, b) => .complex .f64 (floatOfInt .f64 (a : Int)) (floatOfInt .f64 (b : Int))
 | none => .complex .f64 NEGB NEGB
def capV (c : Cp) : Value := .agg #[spV (c 0), spV (c 1), spV (c 2), spV (c 3), spV (c 4), spV (c 5), spV (c 6), spV (c 7), spV (c 8), spV (c 9)]
@[go_sem] theorem run_store_complex (P : Program) (w : World) (a : Addr) (m : Mode) (x y : Nat) : (store a (.complex .f64 x y) m).run P w = stored P w a (.complex .f64 x y) m := run_store P w a _ m rfl
@[go_sem] theorem run_store_spV (P : Program) (w : World) (a : Addr) (m : Mode) (o : Option (Nat × Nat)) : (store a (spV o) m).run P w = stored P w a (spV o) m := run_store P w a _ m (by cases o <;> rfl)
structure VRow (w : World) (b n : Nat) (t : TypeId) (V : Nat → Value) : Prop where
 heap : w.heap[b]? = some (.cells ((List.range n).map V).toArray t (0, 0))
section
variable {w : World} {b n : Nat} {t : TypeId} {V : Nat → Value}
theorem VRow.lt (h : VRow w b n t V) : b < w.heap.size := (Array.getElem?_eq_some_iff.1 h.heap).1
theorem VRow.cell (h : VRow w b n t V) (j : Nat) (hj : j < n) : w.cell? ⟨b, j, none⟩ = some (V j) := by simp [World.cell?, h.heap, hj]
theorem VRow.fz (h : VRow w b n t V) (j : Nat) : w.frozen? ⟨b, j, none⟩ = false := by simp [World.frozen?, h.heap]
theorem VRow.below {B : Nat} {w' : World} (h : VRow w b n t V) (hB : Below B w w') (hb : b < B) : VRow w' b n t V := ⟨(hB.block b hb).trans h.heap⟩
theorem VRow.drew (h : VRow w b n t V) : VRow w.drew b n t V := ⟨h.heap⟩
theorem VRow.set (h : VRow w b n t V) (j : Nat) (v : Value) : VRow (w.setCell ⟨b, j, none⟩ v) b n t (fun i => if i = j then v else V i) := by
 refine ⟨?_⟩
 rw [heap_setCell_same _ b j _ _ _ h.heap]
 congr 2
 apply Array.ext_getElem?
 intro i
 rw [Array.getElem?_setIfInBounds]
 by_cases hi : i < n
 ·by_cases e : j = i
  ·subst e; simp [hi]
  ·have e' : ¬ i = j := fun h => e h.symm
   simp [e, e', hi]
 ·by_cases e : j = i
  ·subst e; simp [hi]
  ·simp [e, hi]
end
abbrev cH (f : Cp) : Array Value := #[spV (f 0), spV (f 1), spV (f 2), spV (f 3), spV (f 4), spV (f 5), spV (f 6), spV (f 7), spV (f 8), spV (f 9)]
abbrev sC1 (w : World) (b : Nat) (Z : Cp) : World := w.setCell ⟨b, 0, none⟩ (spV (Z 0))
abbrev sC2 (w : World) (b : Nat) (Z : Cp) : World := (w.setCell ⟨b, 0, none⟩ (spV (Z 0))).setCell ⟨b, 1, none⟩ (spV (Z 1))
abbrev sC3 (w : World) (b : Nat) (Z : Cp) : World := ((w.setCell ⟨b, 0, none⟩ (spV (Z 0))).setCell ⟨b, 1, none⟩ (spV (Z 1))).setCell ⟨b, 2, none⟩ (spV (Z 2))
abbrev sC4 (w : World) (b : Nat) (Z : Cp) : World := (((w.setCell ⟨b, 0, none⟩ (spV (Z 0))).setCell ⟨b, 1, none⟩ (spV (Z 1))).setCell ⟨b, 2, none⟩ (spV (Z 2))).setCell ⟨b, 3, none⟩ (spV (Z 3))
abbrev sC5 (w : World) (b : Nat) (Z : Cp) : World := ((((w.setCell ⟨b, 0, none⟩ (spV (Z 0))).setCell ⟨b, 1, none⟩ (spV (Z 1))).setCell ⟨b, 2, none⟩ (spV (Z 2))).setCell ⟨b, 3, none⟩ (spV (Z 3))).setCell ⟨b, 4, none⟩ (spV (Z 4))
abbrev sC6 (w : World) (b : Nat) (Z : Cp) : World := (((((w.setCell ⟨b, 0, none⟩ (spV (Z 0))).setCell ⟨b, 1, none⟩ (spV (Z 1))).setCell ⟨b, 2, none⟩ (spV (Z 2))).setCell ⟨b, 3, none⟩ (spV (Z 3))).setCell ⟨b, 4, none⟩ (spV (Z 4))).setCell ⟨b, 5, none⟩ (spV (Z 5))
abbrev sC7 (w : World) (b : Nat) (Z : Cp) : World := ((((((w.setCell ⟨b, 0, none⟩ (spV (Z 0))).setCell ⟨b, 1, none⟩ (spV (Z 1))).setCell ⟨b, 2, none⟩ (spV (Z 2))).setCell ⟨b, 3, none⟩ (spV (Z 3))).setCell ⟨b, 4, none⟩ (spV (Z 4))).setCell ⟨b, 5, none⟩ (spV (Z 5))).setCell ⟨b, 6, none⟩ (spV (Z 6))
abbrev sC8 (w : World) (b : Nat) (Z : Cp) : World := (((((((w.setCell ⟨b, 0, none⟩ (spV (Z 0))).setCell ⟨b, 1, none⟩ (spV (Z 1))).setCell ⟨b, 2, none⟩ (spV (Z 2))).setCell ⟨b, 3, none⟩ (spV (Z 3))).setCell ⟨b, 4, none⟩ (spV (Z 4))).setCell ⟨b, 5, none⟩ (spV (Z 5))).setCell ⟨b, 6, none⟩ (spV (Z 6))).setCell ⟨b, 7, none⟩ (spV (Z 7))
abbrev sC9 (w : World) (b : Nat) (Z : Cp) : World := ((((((((w.setCell ⟨b, 0, none⟩ (spV (Z 0))).setCell ⟨b, 1, none⟩ (spV (Z 1))).setCell ⟨b, 2, none⟩ (spV (Z 2))).setCell ⟨b, 3, none⟩ (spV (Z 3))).setCell ⟨b, 4, none⟩ (spV (Z 4))).setCell ⟨b, 5, none⟩ (spV (Z 5))).setCell ⟨b, 6, none⟩ (spV (Z 6))).setCell ⟨b, 7, none⟩ (spV (Z 7))).setCell ⟨b, 8, none⟩ (spV (Z 8))
abbrev sC10 (w : World) (b : Nat) (Z : Cp) : World := (((((((((w.setCell ⟨b, 0, none⟩ (spV (Z 0))).setCell ⟨b, 1, none⟩ (spV (Z 1))).setCell ⟨b, 2, none⟩ (spV (Z 2))).setCell ⟨b, 3, none⟩ (spV (Z 3))).setCell ⟨b, 4, none⟩ (spV (Z 4))).setCell ⟨b, 5, none⟩ (spV (Z 5))).setCell ⟨b, 6, none⟩ (spV (Z 6))).setCell ⟨b, 7, none⟩ (spV (Z 7))).setCell ⟨b, 8, none⟩ (spV (Z 8))).setCell ⟨b, 9, none⟩ (spV (Z 9))
theorem VRow.ten {w : World} {b : Nat} {t : TypeId} {V : Nat → Value} (h : VRow w b 10 t V) : w.cell? ⟨b, 0, none⟩ = some (V 0) ∧ w.cell? ⟨b, 1, none⟩ = some (V 1) ∧ w.cell? ⟨b, 2, none⟩ = some (V 2) ∧ w.cell? ⟨b, 3, none⟩ = some (V 3) ∧ w.cell? ⟨b, 4, none⟩ = some (V 4) ∧ w.cell? ⟨b, 5, none⟩ = some (V 5) ∧ w.cell? ⟨b, 6, none⟩ = some (V 6) ∧ w.cell? ⟨b, 7, none⟩ = some (V 7) ∧ w.cell? ⟨b, 8, none⟩ = some (V 8) ∧ w.cell? ⟨b, 9, none⟩ = some (V 9) := ⟨h.cell 0 (by decide), h.cell 1 (by decide), h.cell 2 (by decide), h.cell 3 (by decide), h.cell 4 (by decide), h.cell 5 (by decide), h.cell 6 (by decide), h.cell 7 (by decide), h.cell 8 (by decide), h.cell 9 (by decide)⟩
theorem VRow.rf10 {w : World} {b : Nat} {t : TypeId} {V : Nat → Value} (h : VRow w b 10 t V) : w.cell? ⟨b, 0, none⟩ = some (V 0) ∧ w.cell? ⟨b, 1, none⟩ = some (V 1) ∧ w.cell? ⟨b, 2, none⟩ = some (V 2) ∧ w.cell? ⟨b, 3, none⟩ = some (V 3) ∧ w.cell? ⟨b, 4, none⟩ = some (V 4) ∧ w.cell? ⟨b, 5, none⟩ = some (V 5) ∧ w.cell? ⟨b, 6, none⟩ = some (V 6) ∧ w.cell? ⟨b, 7, none⟩ = some (V 7) ∧ w.cell? ⟨b, 8, none⟩ = some (V 8) ∧ w.cell? ⟨b, 9, none⟩ = some (V 9) ∧ w.frozen? ⟨b, 0, none⟩ = false ∧ w.frozen? ⟨b, 1, none⟩ = false ∧ w.frozen? ⟨b, 2, none⟩ = false ∧ w.frozen? ⟨b, 3, none⟩ = false ∧ w.frozen? ⟨b, 4, none⟩ = false ∧ w.frozen? ⟨b, 5, none⟩ = false ∧ w.frozen? ⟨b, 6, none⟩ = false ∧ w.frozen? ⟨b, 7, none⟩ = false ∧ w.frozen? ⟨b, 8, none⟩ = false ∧ w.frozen? ⟨b, 9, none⟩ = false := ⟨h.cell 0 (by decide), h.cell 1 (by decide), h.cell 2 (by decide), h.cell 3 (by decide), h.cell 4 (by decide), h.cell 5 (by decide), h.cell 6 (by decide), h.cell 7 (by decide), h.cell 8 (by decide), h.cell 9 (by decide), h.fz 0, h.fz 1, h.fz 2, h.fz 3, h.fz 4, h.fz 5, h.fz 6, h.fz 7, h.fz 8, h.fz 9⟩
theorem st10 {w : World} {b : Nat} {t : TypeId} {V : Nat → Value} (h : VRow w b 10 t V) (Z : Cp) : (w.setCell ⟨b, 0, none⟩ (spV (Z 0))).cell? ⟨b, 0, none⟩ = some (spV (Z 0)) ∧ ((w.setCell ⟨b, 0, none⟩ (spV (Z 0))).setCell ⟨b, 1, none⟩ (spV (Z 1))).cell? ⟨b, 1, none⟩ = some (spV (Z 1)) ∧ (((w.setCell ⟨b, 0, none⟩ (spV (Z 0))).setCell ⟨b, 1, none⟩ (spV (Z 1))).setCell ⟨b, 2, none⟩ (spV (Z 2))).cell? ⟨b, 2, none⟩ = some (spV (Z 2)) ∧ ((((w.setCell ⟨b, 0, none⟩ (spV (Z 0))).setCell ⟨b, 1, none⟩ (spV (Z 1))).setCell ⟨b, 2, none⟩ (spV (Z 2))).setCell ⟨b, 3, none⟩ (spV (Z 3))).cell? ⟨b, 3, none⟩ = some (spV (Z 3)) ∧ (((((w.setCell ⟨b, 0, none⟩ (spV (Z 0))).setCell ⟨b, 1, none⟩ (spV (Z 1))).setCell ⟨b, 2, none⟩ (spV (Z 2))).setCell ⟨b, 3, none⟩ (spV (Z 3))).setCell ⟨b, 4, none⟩ (spV (Z 4))).cell? ⟨b, 4, none⟩ = some (spV (Z 4)) ∧ ((((((w.setCell ⟨b, 0, none⟩ (spV (Z 0))).setCell ⟨b, 1, none⟩ (spV (Z 1))).setCell ⟨b, 2, none⟩ (spV (Z 2))).setCell ⟨b, 3, none⟩ (spV (Z 3))).setCell ⟨b, 4, none⟩ (spV (Z 4))).setCell ⟨b, 5, none⟩ (spV (Z 5))).cell? ⟨b, 5, none⟩ = some (spV (Z 5)) ∧ (((((((w.setCell ⟨b, 0, none⟩ (spV (Z 0))).setCell ⟨b, 1, none⟩ (spV (Z 1))).setCell ⟨b, 2, none⟩ (spV (Z 2))).setCell ⟨b, 3, none⟩ (spV (Z 3))).setCell ⟨b, 4, none⟩ (spV (Z 4))).setCell ⟨b, 5, none⟩ (spV (Z 5))).setCell ⟨b, 6, none⟩ (spV (Z 6))).cell? ⟨b, 6, none⟩ = some (spV (Z 6)) ∧ ((((((((w.setCell ⟨b, 0, none⟩ (spV (Z 0))).setCell ⟨b, 1, none⟩ (spV (Z 1))).setCell ⟨b, 2, none⟩ (spV (Z 2))).setCell ⟨b, 3, none⟩ (spV (Z 3))).setCell ⟨b, 4, none⟩ (spV (Z 4))).setCell ⟨b, 5, none⟩ (spV (Z 5))).setCell ⟨b, 6, none⟩ (spV (Z 6))).setCell ⟨b, 7, none⟩ (spV (Z 7))).cell? ⟨b, 7, none⟩ = some (spV (Z 7)) ∧ (((((((((w.setCell ⟨b, 0, none⟩ (spV (Z 0))).setCell ⟨b, 1, none⟩ (spV (Z 1))).setCell ⟨b, 2, none⟩ (spV (Z 2))).setCell ⟨b, 3, none⟩ (spV (Z 3))).setCell ⟨b, 4, none⟩ (spV (Z 4))).setCell ⟨b, 5, none⟩ (spV (Z 5))).setCell ⟨b, 6, none⟩ (spV (Z 6))).setCell ⟨b, 7, none⟩ (spV (Z 7))).setCell ⟨b, 8, none⟩ (spV (Z 8))).cell? ⟨b, 8, none⟩ = some (spV (Z 8)) ∧ ((((((((((w.setCell ⟨b, 0, none⟩ (spV (Z 0))).setCell ⟨b, 1, none⟩ (spV (Z 1))).setCell ⟨b, 2, none⟩ (spV (Z 2))).setCell ⟨b, 3, none⟩ (spV (Z 3))).setCell ⟨b, 4, none⟩ (spV (Z 4))).setCell ⟨b, 5, none⟩ (spV (Z 5))).setCell ⟨b, 6, none⟩ (spV (Z 6))).setCell ⟨b, 7, none⟩ (spV (Z 7))).setCell ⟨b, 8, none⟩ (spV (Z 8))).setCell ⟨b, 9, none⟩ (spV (Z 9))).cell? ⟨b, 9, none⟩ = some (spV (Z 9)) := by
 have v0 := h.set 0 (spV (Z 0))
 have v1 := v0.set 1 (spV (Z 1))
 have v2 := v1.set 2 (spV (Z 2))
 have v3 := v2.set 3 (spV (Z 3))
 have v4 := v3.set 4 (spV (Z 4))
 have v5 := v4.set 5 (spV (Z 5))
 have v6 := v5.set 6 (spV (Z 6))
 have v7 := v6.set 7 (spV (Z 7))
 have v8 := v7.set 8 (spV (Z 8))
 have v9 := v8.set 9 (spV (Z 9))
 refine ⟨?_, ?_, ?_, ?_, ?_, ?_, ?_, ?_, ?_, ?_⟩
 ·rw [v0.cell 0 (by decide)]; simp
 ·rw [v1.cell 1 (by decide)]; simp
 ·rw [v2.cell 2 (by decide)]; simp
 ·rw [v3.cell 3 (by decide)]; simp
 ·rw [v4.cell 4 (by decide)]; simp
 ·rw [v5.cell 5 (by decide)]; simp
 ·rw [v6.cell 6 (by decide)]; simp
 ·rw [v7.cell 7 (by decide)]; simp
 ·rw [v8.cell 8 (by decide)]; simp
 ·rw [v9.cell 9 (by decide)]; simp
theorem kp10 {w : World} {b : Nat} (Z : Cp) : Keeps (fun i => i = b) w ((((((((((w.setCell ⟨b, 0, none⟩ (spV (Z 0))).setCell ⟨b, 1, none⟩ (spV (Z 1))).setCell ⟨b, 2, none⟩ (spV (Z 2))).setCell ⟨b, 3, none⟩ (spV (Z 3))).setCell ⟨b, 4, none⟩ (spV (Z 4))).setCell ⟨b, 5, none⟩ (spV (Z 5))).setCell ⟨b, 6, none⟩ (spV (Z 6))).setCell ⟨b, 7, none⟩ (spV (Z 7))).setCell ⟨b, 8, none⟩ (spV (Z 8))).setCell ⟨b, 9, none⟩ (spV (Z 9))) := ((((((((((Keeps.refl (fun i => i = b) w).setCell (p := ⟨b, 0, none⟩) rfl (spV (Z 0))).setCell (p := ⟨b, 1, none⟩) rfl (spV (Z 1))).setCell (p := ⟨b, 2, none⟩) rfl (spV (Z 2))).setCell (p := ⟨b, 3, none⟩) rfl (spV (Z 3))).setCell (p := ⟨b, 4, none⟩) rfl (spV (Z 4))).setCell (p := ⟨b, 5, none⟩) rfl (spV (Z 5))).setCell (p := ⟨b, 6, none⟩) rfl (spV (Z 6))).setCell (p := ⟨b, 7, none⟩) rfl (spV (Z 7))).setCell (p := ⟨b, 8, none⟩) rfl (spV (Z 8))).setCell (p := ⟨b, 9, none⟩) rfl (spV (Z 9))
theorem VRow.new (w : World) (n : Nat) (t : TypeId) (V : Nat → Value) : VRow (w.alloc (.cells ((List.range n).map V).toArray t)) w.heap.size n t V := ⟨by show (w.heap.push _)[w.heap.size]? = _; simp⟩
theorem mnone_c (w : World) : Calls Tryz.prog 18 #[] w fun e w' => e = .returned (capV fun _ => none) ∧ Below w.heap.size w w' := by
 have HN := Lib.hid (fun w => none_code w)
 go_enter Tryz.func18, Tryz.ntmps18
 go_wp2
 have ht : (10 : Nat) = 10 := rfl
 obtain ⟨Z, hZ⟩ : ∃ Z : Value, Z = .complex .f64 0 0 := ⟨_, rfl⟩
 go_loopw [3] (fun i wr => ∃ k : Nat, k ≤ 10 ∧ i = .int .i64 k ∧ VRow wr w.heap.size 10 27 (fun _ => .complex .f64 0 0) ∧ VRow wr (w.heap.size + 1) 10 27 (fun i => if i < k then .complex .f64 NEGB NEGB else .complex .f64 0 0) ∧ Below w.heap.size w wr) (fun i _ => 10 - (RowKit.intOf i).toNat)
 case atStart =>
  refine ⟨0, by omega, rfl, ?_, ?_, ((Below.refl _ w).alloc (Nat.le_refl _) _).alloc (by simp) _⟩
  ·exact (VRow.new w 10 27 (fun _ => .complex .f64 0 0)).below (B := w.heap.size + 1) (by
    have := (Below.refl (w.heap.size + 1) (w.alloc (.cells ((List.range 10).map fun _ => Value.complex .f64 0 0).toArray 27))).alloc (by simp) (.cells ((List.range 10).map fun _ => Value.complex .f64 0 0).toArray 27)
    exact this) (by omega)
  ·have := VRow.new (w.alloc (.cells ((List.range 10).map fun _ => Value.complex .f64 0 0).toArray 27)) 10 27 (fun i => if i < 0 then .complex .f64 NEGB NEGB else .complex .f64 0 0)
   rw [World.size_alloc] at this
   exact this
 case round =>
  obtain ⟨k, hk, rfl, hr, hc, hB⟩ := hrel
  have lB := hB.size
  by_cases hlt : k < 10
  ·have c0 : wr.cell? ⟨w.heap.size + 1, k, none⟩ = some (.complex .f64 0 0) := by rw [hc.cell k hlt]; simp
   have z0 := hc.fz k
   have hs := hc.set k (.complex .f64 NEGB NEGB)
   have e : (fun i => if i = k then Value.complex .f64 NEGB NEGB else (if i < k then .complex .f64 NEGB NEGB else .complex .f64 0 0)) = (fun i => if i < k + 1 then Value.complex .f64 NEGB NEGB else .complex .f64 0 0) := by
    funext i
    by_cases e1 : i = k
    ·subst e1; simp
    ·have : (i < k + 1) ↔ (i < k) := by omega
     simp [e1, this]
   rw [e] at hs
   have HS := Lib.hid hs
   have HR := Lib.hid (VRow.mk ((Below.heap_setCell wr ⟨w.heap.size + 1, k, none⟩ (.complex .f64 NEGB NEGB) w.heap.size (by simp)).trans hr.heap) : VRow (wr.setCell ⟨w.heap.size + 1, k, none⟩ (.complex .f64 NEGB NEGB)) w.heap.size 10 27 (fun _ => .complex .f64 0 0))
   have HB := Lib.hid (hB.setCell (p := ⟨w.heap.size + 1, k, none⟩) (by simp) (.complex .f64 NEGB NEGB))
   clear hs e
   go_wp2_with fail
   refine (HN.out _).mono ?_
   rintro e v2 ⟨rfl, rfl⟩
   go_wp2
   go_roundw
   case rel => exact ⟨k + 1, by omega, by simp, HR.out, HS.out, HB.out⟩
   case measure => (simp [RowKit.intOf]) <;> omega
  ·obtain rfl : k = 10 := by omega
   obtain ⟨r0, r1, r2, r3, r4, r5, r6, r7, r8, r9⟩ := hr.ten
   obtain ⟨c0, c1, c2, c3, c4, c5, c6, c7, c8, c9⟩ := hc.ten
   have f0 := hr.fz 0
   have f1 := hr.fz 1
   have f2 := hr.fz 2
   have f3 := hr.fz 3
   have f4 := hr.fz 4
   have f5 := hr.fz 5
   have f6 := hr.fz 6
   have f7 := hr.fz 7
   have f8 := hr.fz 8
   have f9 := hr.fz 9
   simp only [Nat.reduceLT, if_true] at c0 c1 c2 c3 c4 c5 c6 c7 c8 c9
   have HB := Lib.hid ((((((((((hB.setCell (p := ⟨w.heap.size, 0, none⟩) (Nat.le_refl _) (.complex .f64 NEGB NEGB)).setCell (p := ⟨w.heap.size, 1, none⟩) (Nat.le_refl _) (.complex .f64 NEGB NEGB)).setCell (p := ⟨w.heap.size, 2, none⟩) (Nat.le_refl _) (.complex .f64 NEGB NEGB)).setCell (p := ⟨w.heap.size, 3, none⟩) (Nat.le_refl _) (.complex .f64 NEGB NEGB)).setCell (p := ⟨w.heap.size, 4, none⟩) (Nat.le_refl _) (.complex .f64 NEGB NEGB)).setCell (p := ⟨w.heap.size, 5, none⟩) (Nat.le_refl _) (.complex .f64 NEGB NEGB)).setCell (p := ⟨w.heap.size, 6, none⟩) (Nat.le_refl _) (.complex .f64 NEGB NEGB)).setCell (p := ⟨w.heap.size, 7, none⟩) (Nat.le_refl _) (.complex .f64 NEGB NEGB)).setCell (p := ⟨w.heap.size, 8, none⟩) (Nat.le_refl _) (.complex .f64 NEGB NEGB)).setCell (p := ⟨w.heap.size, 9, none⟩) (Nat.le_refl _) (.complex .f64 NEGB NEGB))
   have v0 := hr.set 0 (.complex .f64 NEGB NEGB)
   have s0 : (wr.setCell ⟨w.heap.size, 0, none⟩ (.complex .f64 NEGB NEGB)).cell? ⟨w.heap.size, 0, none⟩ = some (.complex .f64 NEGB NEGB) := by rw [v0.cell 0 (by decide)]; simp
   have v1 := v0.set 1 (.complex .f64 NEGB NEGB)
   have s1 : ((wr.setCell ⟨w.heap.size, 0, none⟩ (.complex .f64 NEGB NEGB)).setCell ⟨w.heap.size, 1, none⟩ (.complex .f64 NEGB NEGB)).cell? ⟨w.heap.size, 1, none⟩ = some (.complex .f64 NEGB NEGB) := by rw [v1.cell 1 (by decide)]; simp
   have v2 := v1.set 2 (.complex .f64 NEGB NEGB)
   have s2 : (((wr.setCell ⟨w.heap.size, 0, none⟩ (.complex .f64 NEGB NEGB)).setCell ⟨w.heap.size, 1, none⟩ (.complex .f64 NEGB NEGB)).setCell ⟨w.heap.size, 2, none⟩ (.complex .f64 NEGB NEGB)).cell? ⟨w.heap.size, 2, none⟩ = some (.complex .f64 NEGB NEGB) := by rw [v2.cell 2 (by decide)]; simp
   have v3 := v2.set 3 (.complex .f64 NEGB NEGB)
   have s3 : ((((wr.setCell ⟨w.heap.size, 0, none⟩ (.complex .f64 NEGB NEGB)).setCell ⟨w.heap.size, 1, none⟩ (.complex .f64 NEGB NEGB)).setCell ⟨w.heap.size, 2, none⟩ (.complex .f64 NEGB NEGB)).setCell ⟨w.heap.size, 3, none⟩ (.complex .f64 NEGB NEGB)).cell? ⟨w.heap.size, 3, none⟩ = some (.complex .f64 NEGB NEGB) := by rw [v3.cell 3 (by decide)]; simp
   have v4 := v3.set 4 (.complex .f64 NEGB NEGB)
   have s4 : (((((wr.setCell ⟨w.heap.size, 0, none⟩ (.complex .f64 NEGB NEGB)).setCell ⟨w.heap.size, 1, none⟩ (.complex .f64 NEGB NEGB)).setCell ⟨w.heap.size, 2, none⟩ (.complex .f64 NEGB NEGB)).setCell ⟨w.heap.size, 3, none⟩ (.complex .f64 NEGB NEGB)).setCell ⟨w.heap.size, 4, none⟩ (.complex .f64 NEGB NEGB)).cell? ⟨w.heap.size, 4, none⟩ = some (.complex .f64 NEGB NEGB) := by rw [v4.cell 4 (by decide)]; simp
   have v5 := v4.set 5 (.complex .f64 NEGB NEGB)
   have s5 : ((((((wr.setCell ⟨w.heap.size, 0, none⟩ (.complex .f64 NEGB NEGB)).setCell ⟨w.heap.size, 1, none⟩ (.complex .f64 NEGB NEGB)).setCell ⟨w.heap.size, 2, none⟩ (.complex .f64 NEGB NEGB)).setCell ⟨w.heap.size, 3, none⟩ (.complex .f64 NEGB NEGB)).setCell ⟨w.heap.size, 4, none⟩ (.complex .f64 NEGB NEGB)).setCell ⟨w.heap.size, 5, none⟩ (.complex .f64 NEGB NEGB)).cell? ⟨w.heap.size, 5, none⟩ = some (.complex .f64 NEGB NEGB) := by rw [v5.cell 5 (by decide)]; simp
   have v6 := v5.set 6 (.complex .f64 NEGB NEGB)
   have s6 : (((((((wr.setCell ⟨w.heap.size, 0, none⟩ (.complex .f64 NEGB NEGB)).setCell ⟨w.heap.size, 1, none⟩ (.complex .f64 NEGB NEGB)).setCell ⟨w.heap.size, 2, none⟩ (.complex .f64 NEGB NEGB)).setCell ⟨w.heap.size, 3, none⟩ (.complex .f64 NEGB NEGB)).setCell ⟨w.heap.size, 4, none⟩ (.complex .f64 NEGB NEGB)).setCell ⟨w.heap.size, 5, none⟩ (.complex .f64 NEGB NEGB)).setCell ⟨w.heap.size, 6, none⟩ (.complex .f64 NEGB NEGB)).cell? ⟨w.heap.size, 6, none⟩ = some (.complex .f64 NEGB NEGB) := by rw [v6.cell 6 (by decide)]; simp
   have v7 := v6.set 7 (.complex .f64 NEGB NEGB)
   have s7 : ((((((((wr.setCell ⟨w.heap.size, 0, none⟩ (.complex .f64 NEGB NEGB)).setCell ⟨w.heap.size, 1, none⟩ (.complex .f64 NEGB NEGB)).setCell ⟨w.heap.size, 2, none⟩ (.complex .f64 NEGB NEGB)).setCell ⟨w.heap.size, 3, none⟩ (.complex .f64 NEGB NEGB)).setCell ⟨w.heap.size, 4, none⟩ (.complex .f64 NEGB NEGB)).setCell ⟨w.heap.size, 5, none⟩ (.complex .f64 NEGB NEGB)).setCell ⟨w.heap.size, 6, none⟩ (.complex .f64 NEGB NEGB)).setCell ⟨w.heap.size, 7, none⟩ (.complex .f64 NEGB NEGB)).cell? ⟨w.heap.size, 7, none⟩ = some (.complex .f64 NEGB NEGB) := by rw [v7.cell 7 (by decide)]; simp
   have v8 := v7.set 8 (.complex .f64 NEGB NEGB)
   have s8 : (((((((((wr.setCell ⟨w.heap.size, 0, none⟩ (.complex .f64 NEGB NEGB)).setCell ⟨w.heap.size, 1, none⟩ (.complex .f64 NEGB NEGB)).setCell ⟨w.heap.size, 2, none⟩ (.complex .f64 NEGB NEGB)).setCell ⟨w.heap.size, 3, none⟩ (.complex .f64 NEGB NEGB)).setCell ⟨w.heap.size, 4, none⟩ (.complex .f64 NEGB NEGB)).setCell ⟨w.heap.size, 5, none⟩ (.complex .f64 NEGB NEGB)).setCell ⟨w.heap.size, 6, none⟩ (.complex .f64 NEGB NEGB)).setCell ⟨w.heap.size, 7, none⟩ (.complex .f64 NEGB NEGB)).setCell ⟨w.heap.size, 8, none⟩ (.complex .f64 NEGB NEGB)).cell? ⟨w.heap.size, 8, none⟩ = some (.complex .f64 NEGB NEGB) := by rw [v8.cell 8 (by decide)]; simp
   have v9 := v8.set 9 (.complex .f64 NEGB NEGB)
   have s9 : ((((((((((wr.setCell ⟨w.heap.size, 0, none⟩ (.complex .f64 NEGB NEGB)).setCell ⟨w.heap.size, 1, none⟩ (.complex .f64 NEGB NEGB)).setCell ⟨w.heap.size, 2, none⟩ (.complex .f64 NEGB NEGB)).setCell ⟨w.heap.size, 3, none⟩ (.complex .f64 NEGB NEGB)).setCell ⟨w.heap.size, 4, none⟩ (.complex .f64 NEGB NEGB)).setCell ⟨w.heap.size, 5, none⟩ (.complex .f64 NEGB NEGB)).setCell ⟨w.heap.size, 6, none⟩ (.complex .f64 NEGB NEGB)).setCell ⟨w.heap.size, 7, none⟩ (.complex .f64 NEGB NEGB)).setCell ⟨w.heap.size, 8, none⟩ (.complex .f64 NEGB NEGB)).setCell ⟨w.heap.size, 9, none⟩ (.complex .f64 NEGB NEGB)).cell? ⟨w.heap.size, 9, none⟩ = some (.complex .f64 NEGB NEGB) := by rw [v9.cell 9 (by decide)]; simp
   have HSS := Lib.hid (And.intro s0 (And.intro s1 (And.intro s2 (And.intro s3 (And.intro s4 (And.intro s5 (And.intro s6 (And.intro s7 (And.intro s8 s9)))))))))
   clear hr hc v0 v1 v2 v3 v4 v5 v6 v7 v8 v9 s0 s1 s2 s3 s4 s5 s6 s7 s8 s9
   go_wp2
   obtain ⟨s0, s1, s2, s3, s4, s5, s6, s7, s8, s9⟩ := HSS.out
   refine bodyPost_ret (v := capV fun _ => none) (by simp [results, Tryz.results18, go_sem, capV, spV, s0, s1, s2, s3, s4, s5, s6, s7, s8, s9]) rfl ⟨rfl, HB.out⟩
end Go.Proofs.YtgllmhheahlpjaaGreatDoor
namespace Go.Proofs.YtgllmhheahlpjaaGreatDoor
open Go.RowKit
theorem only_c (c : Cp) (G : Gs) (w : World) : Calls Tryz.prog 110 #[capV c, .int .u16 (gw G)] w fun e w' => e = .returned (capV (onlyC c G)) ∧ Below w.heap.size w w' := by
 have HN := Lib.hid (fun w => none_code w)
 have HH := Lib.hid (fun n hn w => ghas_c G n hn w)
 obtain ⟨E, hE⟩ : ∃ E, E = onlyC c G := ⟨_, rfl⟩
 have hE1 : ∀ k, G k = true → E k = c k := fun k h => by rw [hE]; unfold onlyC; rw [if_pos h]
 have hE2 : ∀ k, G k = false → E k = none := fun k h => by rw [hE]; unfold onlyC; rw [h]; rfl
 rw [← hE]
 have HE1 := Lib.hid hE1; have HE2 := Lib.hid hE2
 clear hE hE1 hE2
 unfold capV
 generalize gw G = gG at *
 go_enter Tryz.func110, Tryz.ntmps110
 go_wp2
 go_loopw [6] (fun i wr => ∃ k : Nat, k ≤ 10 ∧ i = .int .i64 k ∧ VRow wr w.heap.size 10 27 (fun i => spV (if i < k then E i else c i)) ∧ VRow wr (w.heap.size + 1) 10 27 (fun _ => .complex .f64 0 0) ∧ Below w.heap.size w wr) (fun i _ => 10 - (RowKit.intOf i).toNat)
 case atStart =>
  refine ⟨0, by omega, rfl, ?_, ?_, ((Below.refl _ w).alloc (Nat.le_refl _) _).alloc (by simp) _⟩
  ·exact (VRow.new w 10 27 (fun i => spV (if i < 0 then E i else c i))).below (B := w.heap.size + 1) (by
    have := (Below.refl (w.heap.size + 1) (w.alloc (.cells ((List.range 10).map fun i => spV (if i < 0 then E i else c i)).toArray 27))).alloc (by simp) (.cells ((List.range 10).map fun _ => Value.complex .f64 0 0).toArray 27)
    exact this) (by omega)
  ·have := VRow.new (w.alloc (.cells ((List.range 10).map fun i => spV (if i < 0 then E i else c i)).toArray 27)) 10 27 (fun _ => .complex .f64 0 0)
   rw [World.size_alloc] at this
   exact this
 case round =>
  obtain ⟨k, hk, rfl, hc, hr, hB⟩ := hrel
  have lB := hB.size
  by_cases hlt : k < 10
  ·have c0 : wr.cell? ⟨w.heap.size, k, none⟩ = some (spV (c k)) := by rw [hc.cell k hlt]; simp
   have z0 := hc.fz k
   have hsame : E k = c k → VRow wr w.heap.size 10 27 (fun i => spV (if i < k + 1 then E i else c i)) := fun h => by
    have e : (fun i => spV (if i < k then E i else c i)) = (fun i => spV (if i < k + 1 then E i else c i)) := by
     funext i
     by_cases e1 : i = k
     ·subst e1; simp [h]
     ·have : (i < k + 1) ↔ (i < k) := by omega
      simp [this]
    rw [← e]; exact hc
   have hset : VRow (wr.setCell ⟨w.heap.size, k, none⟩ (spV (E k))) w.heap.size 10 27 (fun i => spV (if i < k + 1 then E i else c i)) := by
    have h := hc.set k (spV (E k))
    have e : (fun i => if i = k then spV (E k) else spV (if i < k then E i else c i)) = (fun i => spV (if i < k + 1 then E i else c i)) := by
     funext i
     by_cases e1 : i = k
     ·subst e1; simp
     ·have : (i < k + 1) ↔ (i < k) := by omega
      simp [e1, this]
    rw [e] at h; exact h
   have HR := Lib.hid (VRow.mk ((Below.heap_setCell wr ⟨w.heap.size, k, none⟩ (spV (E k)) (w.heap.size + 1) (by simp)).trans hr.heap) : VRow (wr.setCell ⟨w.heap.size, k, none⟩ (spV (E k))) (w.heap.size + 1) 10 27 (fun _ => .complex .f64 0 0))
   have HB := Lib.hid (hB.setCell (p := ⟨w.heap.size, k, none⟩) (Nat.le_refl _) (spV (E k)))
   have HSame := Lib.hid hsame
   have HSet := Lib.hid hset
   clear hsame hset
   cases hG : G k with
   | true =>
    have hq := HSame.out (HE1.out k hG)
    clear HR HB HSet HSame
    have HQ := Lib.hid hq
    clear hq hc
    go_wp2_with fail
    refine (HH.out k hlt _).mono ?_
    rintro e v2 ⟨rfl, rfl⟩
    rw [hG]
    go_wp2
    go_roundw
    case rel => exact ⟨k + 1, by omega, by simp, HQ.out, hr, hB⟩
    case measure => (simp [RowKit.intOf]) <;> omega
   | false =>
    have hn : spV (E k) = .complex .f64 NEGB NEGB := by rw [HE2.out k hG]; rfl
    rw [hn] at HR HB HSet
    clear HSame hn
    go_wp2_with fail
    refine (HH.out k hlt _).mono ?_
    rintro e v2 ⟨rfl, rfl⟩
    rw [hG]
    go_wp2_with fail
    refine (HN.out _).mono ?_
    rintro e v3 ⟨rfl, rfl⟩
    go_wp2
    go_roundw
    case rel => exact ⟨k + 1, by omega, by simp, HSet.out, HR.out, HB.out⟩
    case measure => (simp [RowKit.intOf]) <;> omega
  ·obtain rfl : k = 10 := by omega
   have c0 : wr.cell? ⟨w.heap.size, 0, none⟩ = some (spV (E 0)) := by rw [hc.cell 0 (by decide)]; rfl
   have c1 : wr.cell? ⟨w.heap.size, 1, none⟩ = some (spV (E 1)) := by rw [hc.cell 1 (by decide)]; rfl
   have c2 : wr.cell? ⟨w.heap.size, 2, none⟩ = some (spV (E 2)) := by rw [hc.cell 2 (by decide)]; rfl
   have c3 : wr.cell? ⟨w.heap.size, 3, none⟩ = some (spV (E 3)) := by rw [hc.cell 3 (by decide)]; rfl
   have c4 : wr.cell? ⟨w.heap.size, 4, none⟩ = some (spV (E 4)) := by rw [hc.cell 4 (by decide)]; rfl
   have c5 : wr.cell? ⟨w.heap.size, 5, none⟩ = some (spV (E 5)) := by rw [hc.cell 5 (by decide)]; rfl
   have c6 : wr.cell? ⟨w.heap.size, 6, none⟩ = some (spV (E 6)) := by rw [hc.cell 6 (by decide)]; rfl
   have c7 : wr.cell? ⟨w.heap.size, 7, none⟩ = some (spV (E 7)) := by rw [hc.cell 7 (by decide)]; rfl
   have c8 : wr.cell? ⟨w.heap.size, 8, none⟩ = some (spV (E 8)) := by rw [hc.cell 8 (by decide)]; rfl
   have c9 : wr.cell? ⟨w.heap.size, 9, none⟩ = some (spV (E 9)) := by rw [hc.cell 9 (by decide)]; rfl
   obtain ⟨r0, r1, r2, r3, r4, r5, r6, r7, r8, r9, f0, f1, f2, f3, f4, f5, f6, f7, f8, f9⟩ := hr.rf10
   obtain ⟨s0, s1, s2, s3, s4, s5, s6, s7, s8, s9⟩ := st10 (w := wr) (b := w.heap.size + 1) hr E
   have HB := Lib.hid ((((((((((hB.setCell (p := ⟨w.heap.size + 1, 0, none⟩) (by simp) (spV (E 0))).setCell (p := ⟨w.heap.size + 1, 1, none⟩) (by simp) (spV (E 1))).setCell (p := ⟨w.heap.size + 1, 2, none⟩) (by simp) (spV (E 2))).setCell (p := ⟨w.heap.size + 1, 3, none⟩) (by simp) (spV (E 3))).setCell (p := ⟨w.heap.size + 1, 4, none⟩) (by simp) (spV (E 4))).setCell (p := ⟨w.heap.size + 1, 5, none⟩) (by simp) (spV (E 5))).setCell (p := ⟨w.heap.size + 1, 6, none⟩) (by simp) (spV (E 6))).setCell (p := ⟨w.heap.size + 1, 7, none⟩) (by simp) (spV (E 7))).setCell (p := ⟨w.heap.size + 1, 8, none⟩) (by simp) (spV (E 8))).setCell (p := ⟨w.heap.size + 1, 9, none⟩) (by simp) (spV (E 9)))
   have HSS := Lib.hid (And.intro s0 (And.intro s1 (And.intro s2 (And.intro s3 (And.intro s4 (And.intro s5 (And.intro s6 (And.intro s7 (And.intro s8 s9)))))))))
   clear hr hc s0 s1 s2 s3 s4 s5 s6 s7 s8 s9
   go_wp2
   obtain ⟨s0, s1, s2, s3, s4, s5, s6, s7, s8, s9⟩ := HSS.out
   refine bodyPost_ret (v := .agg (cH E)) (by simp [results, Tryz.results110, go_sem, s0, s1, s2, s3, s4, s5, s6, s7, s8, s9]) rfl ⟨rfl, HB.out⟩
end Go.Proofs.YtgllmhheahlpjaaGreatDoor
namespace Go.Proofs.YtgllmhheahlpjaaGreatDoor
open Go.RowKit Go.Proofs.YtgllmhheahlpjaaGreatDoor.Fl
theorem may_sp (o : Option (Nat × Nat)) (hok : ∀ a b, o = some (a, b) → a ≤ b ∧ b ≤ 999999999) (w : World) : Calls Tryz.prog 60 #[spV o] w fun e w' => e = .returned (.bool o.isSome) ∧ w' = w := by
 cases o with
 | none =>
  refine (may_no NEGB NEGB w ?_).mono ?_
  ·unfold sp; rw [val_neg]; rfl
  ·rintro e w' ⟨h1, h2⟩; exact ⟨h1, h2.symm⟩
 | some p =>
  obtain ⟨a, b⟩ := p
  obtain ⟨h1, h2⟩ := hok a b rfl
  have hv : ∀ a : Nat, a ≤ 999999999 → val (floatOfInt .f64 (a : Int)) = some (a : Int) := fun a h => val_floatOfInt (by have : (2 : Nat) ^ 53 = 9007199254740992 := rfl; omega)
  refine (may_yes (floatOfInt .f64 (a : Int)) (floatOfInt .f64 (b : Int)) a b w (sp_of (hv a (by omega)) (hv b h2) (by omega) (by omega) (by omega))).mono ?_
  rintro e w' ⟨h1, h2⟩; exact ⟨h1, h2.symm⟩
theorem cap_idx (d : Cp) (k : Nat) (hk : k < 10) (w : World) : (Instr.index 27 (.agg (cH d)) (.int .i64 k)).run Tryz.prog w = .ok (spV (d k)) w := by
 rcases (by omega : k = 0 ∨ k = 1 ∨ k = 2 ∨ k = 3 ∨ k = 4 ∨ k = 5 ∨ k = 6 ∨ k = 7 ∨ k = 8 ∨ k = 9) with rfl | rfl | rfl | rfl | rfl | rfl | rfl | rfl | rfl | rfl <;> kernel_rfl
theorem over_c (c d : Cp) (hd : ∀ g a b, d g = some (a, b) → a ≤ b ∧ b ≤ 999999999) (w : World) : Calls Tryz.prog 111 #[capV c, capV d] w fun e w' => e = .returned (capV (overC c d)) ∧ Below w.heap.size w w' := by
 have HM := Lib.hid (fun k w => may_sp (d k) (hd k) w)
 have HI := Lib.hid (fun k hk w => cap_idx d k hk w)
 obtain ⟨E, hE⟩ : ∃ E, E = overC c d := ⟨_, rfl⟩
 have hE1 : ∀ k, (d k).isSome = false → E k = c k := fun k h => by rw [hE]; unfold overC; rw [h]; rfl
 have hE2 : ∀ k, (d k).isSome = true → E k = d k := fun k h => by rw [hE]; unfold overC; rw [h]; rfl
 rw [← hE]
 have HE1 := Lib.hid hE1; have HE2 := Lib.hid hE2
 clear hE hE1 hE2 hd
 unfold capV
 go_enter Tryz.func111, Tryz.ntmps111
 go_wp2
 go_loopw [8] (fun i wr => ∃ k : Nat, k ≤ 10 ∧ i = .int .i64 k ∧ VRow wr w.heap.size 10 27 (fun i => spV (if i < k then E i else c i)) ∧ VRow wr (w.heap.size + 2) 10 27 (fun _ => .complex .f64 0 0) ∧ Below w.heap.size w wr) (fun i _ => 10 - (RowKit.intOf i).toNat)
 case atStart =>
  refine ⟨0, by omega, rfl, ?_, ?_, (((Below.refl _ w).alloc (Nat.le_refl _) _).alloc (by simp) _).alloc (by simp only [World.size_alloc]; omega) _⟩
  ·have h0 := VRow.new w 10 27 (fun i => spV (if i < 0 then E i else c i))
   exact ⟨(heap_alloc _ (heap_alloc _ h0.heap))⟩
  ·have := VRow.new ((w.alloc (.cells ((List.range 10).map fun i => spV (if i < 0 then E i else c i)).toArray 27)).alloc (.cells ((List.range 10).map fun i => spV (d i)).toArray 27)) 10 27 (fun _ => .complex .f64 0 0)
   rw [World.size_alloc, World.size_alloc] at this
   exact this
 case round =>
  obtain ⟨k, hk, rfl, hc, hr, hB⟩ := hrel
  have lB := hB.size
  by_cases hlt : k < 10
  ·have c0 : wr.cell? ⟨w.heap.size, k, none⟩ = some (spV (c k)) := by rw [hc.cell k hlt]; simp
   have z0 := hc.fz k
   have hidx := HI.out k hlt wr
   have hsame : E k = c k → VRow wr w.heap.size 10 27 (fun i => spV (if i < k + 1 then E i else c i)) := fun h => by
    have e : (fun i => spV (if i < k then E i else c i)) = (fun i => spV (if i < k + 1 then E i else c i)) := by
     funext i
     by_cases e1 : i = k
     ·subst e1; simp [h]
     ·have : (i < k + 1) ↔ (i < k) := by omega
      simp [this]
    rw [← e]; exact hc
   have hset : VRow (wr.setCell ⟨w.heap.size, k, none⟩ (spV (E k))) w.heap.size 10 27 (fun i => spV (if i < k + 1 then E i else c i)) := by
    have h := hc.set k (spV (E k))
    have e : (fun i => if i = k then spV (E k) else spV (if i < k then E i else c i)) = (fun i => spV (if i < k + 1 then E i else c i)) := by
     funext i
     by_cases e1 : i = k
     ·subst e1; simp
     ·have : (i < k + 1) ↔ (i < k) := by omega
      simp [e1, this]
    rw [e] at h; exact h
   have HR := Lib.hid (VRow.mk ((Below.heap_setCell wr ⟨w.heap.size, k, none⟩ (spV (E k)) (w.heap.size + 2) (by simp)).trans hr.heap) : VRow (wr.setCell ⟨w.heap.size, k, none⟩ (spV (E k))) (w.heap.size + 2) 10 27 (fun _ => .complex .f64 0 0))
   have HB := Lib.hid (hB.setCell (p := ⟨w.heap.size, k, none⟩) (Nat.le_refl _) (spV (E k)))
   have HSame := Lib.hid hsame
   have HSet := Lib.hid hset
   clear hsame hset
   cases hG : (d k).isSome with
   | false =>
    have hq := HSame.out (HE1.out k hG)
    clear HR HB HSet HSame
    have HQ := Lib.hid hq
    clear hq hc
    go_wp2_with fail
    refine (HM.out k _).mono ?_
    rintro e v2 ⟨rfl, rfl⟩
    rw [hG]
    clear hidx
    go_wp2
    go_roundw
    case rel => exact ⟨k + 1, by omega, by simp, HQ.out, hr, hB⟩
    case measure => (simp [RowKit.intOf]) <;> omega
   | true =>
    rw [HE2.out k hG] at HR HB HSet
    clear HSame
    have hm := HM.out k wr
    obtain ⟨x, y, hxy⟩ : ∃ x y, spV (d k) = .complex .f64 x y := by
     cases d k with
     | none => exact ⟨_, _, rfl⟩
     | some p => obtain ⟨a, b⟩ := p; exact ⟨_, _, rfl⟩
    rw [hxy] at hm hidx HR HB HSet
    have HMk := Lib.hid hm
    clear hm hxy
    go_wp2_with fail
    refine HMk.out.mono ?_
    rintro e v2 ⟨rfl, rfl⟩
    rw [hG]
    clear hidx
    go_wp2
    go_roundw
    case rel => exact ⟨k + 1, by omega, by simp, HSet.out, HR.out, HB.out⟩
    case measure => (simp [RowKit.intOf]) <;> omega
  ·obtain rfl : k = 10 := by omega
   have c0 : wr.cell? ⟨w.heap.size, 0, none⟩ = some (spV (E 0)) := by rw [hc.cell 0 (by decide)]; rfl
   have c1 : wr.cell? ⟨w.heap.size, 1, none⟩ = some (spV (E 1)) := by rw [hc.cell 1 (by decide)]; rfl
   have c2 : wr.cell? ⟨w.heap.size, 2, none⟩ = some (spV (E 2)) := by rw [hc.cell 2 (by decide)]; rfl
   have c3 : wr.cell? ⟨w.heap.size, 3, none⟩ = some (spV (E 3)) := by rw [hc.cell 3 (by decide)]; rfl
   have c4 : wr.cell? ⟨w.heap.size, 4, none⟩ = some (spV (E 4)) := by rw [hc.cell 4 (by decide)]; rfl
   have c5 : wr.cell? ⟨w.heap.size, 5, none⟩ = some (spV (E 5)) := by rw [hc.cell 5 (by decide)]; rfl
   have c6 : wr.cell? ⟨w.heap.size, 6, none⟩ = some (spV (E 6)) := by rw [hc.cell 6 (by decide)]; rfl
   have c7 : wr.cell? ⟨w.heap.size, 7, none⟩ = some (spV (E 7)) := by rw [hc.cell 7 (by decide)]; rfl
   have c8 : wr.cell? ⟨w.heap.size, 8, none⟩ = some (spV (E 8)) := by rw [hc.cell 8 (by decide)]; rfl
   have c9 : wr.cell? ⟨w.heap.size, 9, none⟩ = some (spV (E 9)) := by rw [hc.cell 9 (by decide)]; rfl
   obtain ⟨r0, r1, r2, r3, r4, r5, r6, r7, r8, r9, f0, f1, f2, f3, f4, f5, f6, f7, f8, f9⟩ := hr.rf10
   obtain ⟨s0, s1, s2, s3, s4, s5, s6, s7, s8, s9⟩ := st10 (w := wr) (b := w.heap.size + 2) hr E
   have HB := Lib.hid ((((((((((hB.setCell (p := ⟨w.heap.size + 2, 0, none⟩) (by simp) (spV (E 0))).setCell (p := ⟨w.heap.size + 2, 1, none⟩) (by simp) (spV (E 1))).setCell (p := ⟨w.heap.size + 2, 2, none⟩) (by simp) (spV (E 2))).setCell (p := ⟨w.heap.size + 2, 3, none⟩) (by simp) (spV (E 3))).setCell (p := ⟨w.heap.size + 2, 4, none⟩) (by simp) (spV (E 4))).setCell (p := ⟨w.heap.size + 2, 5, none⟩) (by simp) (spV (E 5))).setCell (p := ⟨w.heap.size + 2, 6, none⟩) (by simp) (spV (E 6))).setCell (p := ⟨w.heap.size + 2, 7, none⟩) (by simp) (spV (E 7))).setCell (p := ⟨w.heap.size + 2, 8, none⟩) (by simp) (spV (E 8))).setCell (p := ⟨w.heap.size + 2, 9, none⟩) (by simp) (spV (E 9)))
   have HSS := Lib.hid (And.intro s0 (And.intro s1 (And.intro s2 (And.intro s3 (And.intro s4 (And.intro s5 (And.intro s6 (And.intro s7 (And.intro s8 s9)))))))))
   clear hr hc s0 s1 s2 s3 s4 s5 s6 s7 s8 s9
   go_wp2
   obtain ⟨s0, s1, s2, s3, s4, s5, s6, s7, s8, s9⟩ := HSS.out
   refine bodyPost_ret (v := .agg (cH E)) (by simp [results, Tryz.results111, go_sem, s0, s1, s2, s3, s4, s5, s6, s7, s8, s9]) rfl ⟨rfl, HB.out⟩
end Go.Proofs.YtgllmhheahlpjaaGreatDoor
