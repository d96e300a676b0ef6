/- A trial: leaf, but for references. -/
import Derived.Test.YtgllmhheahlpjaaGreatDoorJMbS
import Derived.Deep.RegionWith
set_option linter.unusedVariables false
set_option linter.unusedSimpArgs false
set_option maxRecDepth 100000
set_option maxHeartbeats 40000000
namespace Go.Proofs.YtgllmhheahlpjaaGreatDoor
open Go.RowKit
theorem below_two {w w3 : World} {o1 o2 : Obj} (h : Below ((w.alloc o1).alloc o2).heap.size ((w.alloc o1).alloc o2) w3) : Below w.heap.size w w3 :=
 (((Below.refl _ w).alloc (Nat.le_refl _) _).alloc (by simp) _).trans ⟨h.os, h.tape, h.output, h.size, fun i hi => h.block i (by rw [World.size_alloc, World.size_alloc]; omega)⟩
theorem below_two' {w w3 : World} {o1 o2 : Obj} (h : Below ((w.alloc o1).alloc o2).drew.heap.size ((w.alloc o1).alloc o2).drew w3) : Below w.heap.size w w3 := below_two ⟨h.os, h.tape, h.output, h.size, h.block⟩
def LeafOut (o : Option Nat) (w : World) (e : Ending) (w' : World) : Prop := (∃ z : Int, e = .returned (.tuple #[.int .i64 z, .bool o.isSome]) ∧ ∀ k, o = some k → z = k) ∧ Below w.heap.size w w'
theorem leaf_c (X p : Nat) (v : TrV) (s : List UInt8) (x : Nd) (hk : x.kind = 0 ∨ x.kind = 1 ∨ x.kind = 2 ∨ x.kind = 3) (hx : x.Fits) (hp : p ≤ s.length) (hs : s.length ≤ 999999999) (had : Cp) (w : World) (h : TrAt w X v s) :
  Calls Tryz.prog 155 #[.pointer (some ⟨X, 0, none⟩), ndV x, .int .i64 p, capV had] w (LeafOut (leafE s x p had) w) := by
 have q1 := h.c1
 have lX := h.lt
 clear h
 obtain ⟨kd, w0, w1, w2, w3, xa, xb, m, M, xn⟩ := x
 simp only at hk
 unfold ndV capV
 simp only
 obtain ⟨o, ho⟩ : ∃ o, o = leafE s ⟨kd, w0, w1, w2, w3, xa, xb, m, M, xn⟩ p had := ⟨_, rfl⟩
 rw [← ho]
 have HO := Lib.hid ho
 clear ho
 rcases hk with rfl | rfl | rfl | rfl
 ·have e : o = some 0 := HO.out
  subst e
  go_enter Tryz.func155, Tryz.ntmps155
  go_wp2
  go_ret2
  exact ⟨⟨0, rfl, fun k h => by cases h; rfl⟩, ((Below.refl _ w).alloc (Nat.le_refl _) _).alloc (by simp) _⟩
 ·have e : o = (match s[p]? with | some b => if (ofWords w0 w1 w2 w3) b.toNat then some 1 else none | none => none) := HO.out
  by_cases hlt : p < s.length
  ·have hb : s[p]? = some s[p] := List.getElem?_eq_getElem hlt
   rw [hb] at e
   simp only at e
   obtain ⟨a0, a1, a2, a3⟩ := ofWords_wd hx.s0 hx.s1 hx.s2 hx.s3
   have hc := fun w => has_c (ofWords w0 w1 w2 w3) s[p].toNat (by have := s[p].toNat_lt; omega) w
   unfold sv at hc
   rw [a0, a1, a2, a3] at hc
   obtain ⟨f, hf⟩ : ∃ f, f = ofWords w0 w1 w2 w3 s[p].toNat := ⟨_, rfl⟩
   rw [← hf] at hc e
   have hv : o.isSome = f := by rw [e]; cases f <;> rfl
   have hz : ∀ k, o = some k → (1 : Int) = k := fun k h => by
    rw [e] at h
    split at h
    ·cases h; rfl
    ·cases h
   have HC := Lib.hid hc; have HV := Lib.hid hv; have HZ := Lib.hid hz
   clear e hc hv hz a0 a1 a2 a3 hf HO
   have q1' := cell_alloc1 (.cells (nA 1 w0 w1 w2 w3 xa xb m M xn) 60) q1
   have q1'' := cell_alloc1 (.cells (cH had) 27) q1'
   go_enter Tryz.func155, Tryz.ntmps155
   go_wp2_with fail
   go_region_with (go_at_call 172; refine (HC.out _).mono ?_; rintro e w3 ⟨rfl, hB3⟩)
   all_goals
    go_wp2
    go_ret2
    refine ⟨⟨1, by rw [HV.out]; rfl, HZ.out⟩, ?_⟩
    first | exact below_two hB3 | exact below_two' hB3 | exact (below_two hB3).drew | exact (below_two' hB3).drew
  ·have hb : s[p]? = none := List.getElem?_eq_none (by omega)
   rw [hb] at e
   subst e
   have q1' := cell_alloc1 (.cells (nA 1 w0 w1 w2 w3 xa xb m M xn) 60) q1
   have q1'' := cell_alloc1 (.cells (cH had) 27) q1'
   go_enter Tryz.func155, Tryz.ntmps155
   go_wp2_with fail
   go_region
   all_goals
    go_wp2
    go_ret2
    exact ⟨⟨1, rfl, fun k h => by cases h⟩, (((Below.refl _ w).alloc (Nat.le_refl _) _).alloc (by simp) _).drew⟩
 ·have e : o = if p = 0 then some 0 else none := HO.out
  have hv : ((p : Int) == 0) = o.isSome := by
   rw [e]
   by_cases h : p = 0
   ·subst h; rfl
   ·rw [if_neg h]; simp [h]
  have hz : ∀ k, o = some k → (0 : Int) = k := fun k h => by
   rw [e] at h
   split at h
   ·cases h; rfl
   ·cases h
  have HV := Lib.hid hv; have HZ := Lib.hid hz
  clear e hv hz
  go_enter Tryz.func155, Tryz.ntmps155
  go_wp2
  go_ret2
  exact ⟨⟨0, by rw [HV.out]; rfl, HZ.out⟩, ((Below.refl _ w).alloc (Nat.le_refl _) _).alloc (by simp) _⟩
 ·have e : o = if p = s.length then some 0 else none := HO.out
  have hv : ((p : Int) == (s.length : Int)) = o.isSome := by
   rw [e]
   by_cases h : p = s.length
   ·rw [if_pos h, h]; simp
   ·rw [if_neg h]; exact beq_eq_false_iff_ne.2 (by omega)
  have hz : ∀ k, o = some k → (0 : Int) = k := fun k h => by
   rw [e] at h
   split at h
   ·cases h; rfl
   ·cases h
  have HV := Lib.hid hv; have HZ := Lib.hid hz
  clear e hv hz
  have q1' := cell_alloc1 (.cells (nA 3 w0 w1 w2 w3 xa xb m M xn) 60) q1
  have q1'' := cell_alloc1 (.cells (cH had) 27) q1'
  go_enter Tryz.func155, Tryz.ntmps155
  go_wp2_with fail
  go_region
  all_goals
   go_wp2
   go_ret2
   exact ⟨⟨0, by rw [HV.out]; rfl, HZ.out⟩, (((Below.refl _ w).alloc (Nat.le_refl _) _).alloc (by simp) _).drew⟩
end Go.Proofs.YtgllmhheahlpjaaGreatDoor
