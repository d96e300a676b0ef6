/- What is wrong is recovered: the walks. -/
import Derived.Test.YtdjcgjkbecncaaaGreatDoorJBrF
import Derived.Defers
import Derived.Recover
import Derived.Test.YtdjcgjkbecncaaaGreatDoorJBrH
set_option linter.unusedVariables false
set_option linter.unusedSimpArgs false
set_option maxRecDepth 100000
set_option maxHeartbeats 40000000
namespace Go.Proofs.YtdjcgjkbecncaaaGreatDoor
open Go.RowKit
structure FV (w : World) (g : Nat) (z a : Int) : Prop where
 heap : w.heap[g]? = some (.cells #[.int .i64 z, .int .i64 a] 152 (0, 0))
section
variable {w w' : World} {g : Nat} {z a : Int}
theorem FV.c0 (h : FV w g z a) : w.cell? ⟨g, 0, none⟩ = some (.int .i64 z) := (cell_of _ _ _ _ h.heap 0)
theorem FV.c1 (h : FV w g z a) : w.cell? ⟨g, 1, none⟩ = some (.int .i64 a) := (cell_of _ _ _ _ h.heap 1)
theorem FV.fz (h : FV w g z a) (j : Nat) : w.frozen? ⟨g, j, none⟩ = false := frozen_of _ _ _ _ h.heap j
theorem FV.lt (h : FV w g z a) : g < w.heap.size := (Array.getElem?_eq_some_iff.1 h.heap).1
theorem FV.below {B : Nat} (h : FV w g z a) (hB : Below B w w') (hb : g < B) : FV w' g z a := ⟨(hB.block g hb).trans h.heap⟩
theorem FV.new (w : World) (z a : Int) : FV (w.alloc (.cells #[.int .i64 z, .int .i64 a] 152)) w.heap.size z a := ⟨heap_new w _⟩
theorem FV.set (h : FV w g z a) (z' a' : Int) : FV ((w.setCell ⟨g, 0, none⟩ (.int .i64 z')).setCell ⟨g, 1, none⟩ (.int .i64 a')) g z' a' := ⟨by
 rw [heap_setCell_same _ g 1 _ _ _ (heap_setCell_same _ g 0 _ _ _ h.heap)]; rfl⟩
end
theorem catch_fault (g : Nat) (z a : Int) (older : List PanicEntry) (w : World) (h : FV w g 0 0) :
  CallsD Tryz.prog 141 #[.pointer (some ⟨g, 0, none⟩)] (.panicking ({ v := .iface 152 (.agg #[.int .i64 z, .int .i64 a]), recovered := false } :: older)) w fun e u' w' =>
   e = .returned (.tuple #[]) ∧ u' = .panicking ({ v := .iface 152 (.agg #[.int .i64 z, .int .i64 a]), recovered := true } :: older) ∧ FV w' g z a ∧ w.grownBy w' (some g) := by
 have c0 := h.c0
 have c1 := h.c1
 have f0 := h.fz 0
 have f1 := h.fz 1
 have hlt := h.lt
 refine callsD_of_wpS Tryz.func141 rfl fun c₀ cs hu => ?_
 apply wpS_seq
 apply wpS_region
 simp [wpOpsS, go_sem, recoverD, hu, Tryz.ntmps141, Exit.thenS]
 refine wpS_of_wp ?_
 have hta : ∀ w : World, (Instr.typeAssert (.iface 152 (.agg #[.int .i64 z, .int .i64 a])) 20 152 true).run Tryz.prog w = .ok (.tuple #[.agg #[.int .i64 z, .int .i64 a], .bool true]) w := fun _ => by kernel_rfl
 have hB := (Below.refl ((w.setCell ⟨g, 0, none⟩ (.int .i64 z)).setCell ⟨g, 1, none⟩ (.int .i64 a)).heap.size ((w.setCell ⟨g, 0, none⟩ (.int .i64 z)).setCell ⟨g, 1, none⟩ (.int .i64 a))).alloc (Nat.le_refl _) (.cells #[.int .i64 z, .int .i64 a] 152)
 have q := FV.below (h.set z a) hB (h.set z a).lt
 have gr0 : w.grownBy w (some g) := ⟨rfl, rfl, rfl, Nat.le_refl _, fun _ _ _ => rfl⟩
 have gr := (grown_setc (grown_setc gr0 0 (.int .i64 z)) 1 (.int .i64 a)).trans (grownB (row := some g) hB)
 have HQ := Lib.hid q
 have HG := Lib.hid gr
 clear hB q gr0 gr h
 go_wp2
 have q := HQ.out
 have gr := HG.out
 cases c₀
 simp [bodyPostS, results, Tryz.results141] at hu ⊢
 exact ⟨q, gr⟩
theorem catch_idle (g : Nat) (w : World) :
  CallsD Tryz.prog 141 #[.pointer (some ⟨g, 0, none⟩)] .returning w fun e u' w' => e = .returned (.tuple #[]) ∧ u' = .returning ∧ w' = w := by
 refine callsD_of_wpS Tryz.func141 rfl fun c₀ cs hu => ?_
 apply wpS_seq
 apply wpS_region
 simp [wpOpsS, go_sem, recoverD, hu, Tryz.ntmps141, Exit.thenS]
 refine wpS_of_wp ?_
 go_wp2
 cases c₀
 simp_all [bodyPostS, results, Tryz.results141]
theorem fault_yes (K : FuncId) (cap : Array Value) (z a : Int) (w : World) (Q : World → Prop) (hen : ∀ w, (callFunc K cap).run Tryz.prog w = .ok (.enter K cap) w)
  (hK : ∀ W, W = w.alloc (.cells #[.int .i64 0, .int .i64 0] 152) → Calls Tryz.prog K cap W fun e w' => e = Pan z a ∧ FV w' w.heap.size 0 0 ∧ Q w') :
  Calls Tryz.prog 122 #[.func (.func K) #[] cap] w fun e w' => e = .returned (.agg #[.int .i64 z, .int .i64 a]) ∧ ∃ w1, Q w1 ∧ w1.grownBy w' (some w.heap.size) := by
 have hmf : ∀ (fn : Fn) (first cap : Array Value) (w : World), (Instr.makeFunc fn first cap).run Tryz.prog w = .ok (.func fn first cap) w := fun _ _ _ _ => rfl
 have HK := Lib.hid (hK _ rfl)
 clear hK
 go_enter_defers Tryz.func122, Tryz.ntmps122
 go_wp2_with fail
 refine HK.out.mono ?_
 rintro e w1 ⟨rfl, hF, hQ⟩
 unfold Pan
 go_wp2
 refine leaves_cons (f := 141) (args := #[.pointer (some ⟨w.heap.size, 0, none⟩)]) (by simp) (by simp [go_sem]) ?_
 refine (catch_fault w.heap.size z a [] _ hF).mono ?_
 rintro e u' w'' ⟨rfl, rfl, hF2, hG⟩
 have c0 := hF2.c0
 have c1 := hF2.c1
 simp [Leaves, settle, results, Tryz.results122, go_sem, c0, c1]
 exact ⟨w1, hQ, hG⟩
theorem fault_no (K : FuncId) (cap : Array Value) (w : World) (Q : World → Prop) (hen : ∀ w, (callFunc K cap).run Tryz.prog w = .ok (.enter K cap) w)
  (hK : ∀ W, W = w.alloc (.cells #[.int .i64 0, .int .i64 0] 152) → Calls Tryz.prog K cap W fun e w' => e = .returned (.tuple #[]) ∧ FV w' w.heap.size 0 0 ∧ Q w') :
  Calls Tryz.prog 122 #[.func (.func K) #[] cap] w fun e w' => e = .returned (.agg #[.int .i64 0, .int .i64 0]) ∧ ∃ w1, Q w1 ∧ w1.grownBy w' (some w.heap.size) := by
 have hmf : ∀ (fn : Fn) (first cap : Array Value) (w : World), (Instr.makeFunc fn first cap).run Tryz.prog w = .ok (.func fn first cap) w := fun _ _ _ _ => rfl
 have HK := Lib.hid (hK _ rfl)
 clear hK
 go_enter_defers Tryz.func122, Tryz.ntmps122
 go_wp2_with fail
 refine HK.out.mono ?_
 rintro e w1 ⟨rfl, hF, hQ⟩
 have c0 := hF.c0
 have c1 := hF.c1
 have f0 := hF.fz 0
 have f1 := hF.fz 1
 have q := hF.set 0 0
 have gr0 : w1.grownBy w1 (some w.heap.size) := ⟨rfl, rfl, rfl, Nat.le_refl _, fun _ _ _ => rfl⟩
 have gr := grown_setc (grown_setc gr0 0 (.int .i64 0)) 1 (.int .i64 0)
 have d0 := q.c0
 have d1 := q.c1
 have HG := Lib.hid gr
 clear q gr0 gr HK hF
 go_wp2
 refine leaves_cons (f := 141) (args := #[.pointer (some ⟨w.heap.size, 0, none⟩)]) (by simp) (by simp [go_sem]) ?_
 refine (catch_idle w.heap.size _).mono ?_
 rintro e u' w'' ⟨rfl, rfl, rfl⟩
 simp [Leaves, settle, results, Tryz.results122, go_sem, d0, d1]
 exact ⟨w1, hQ, HG.out⟩
end Go.Proofs.YtdjcgjkbecncaaaGreatDoor
namespace Go.Proofs.YtdjcgjkbecncaaaGreatDoor
open Go.RowKit
structure But (S : Nat → Prop) (w w' : World) : Prop where
 os : w'.os = w.os
 tape : w'.tape = w.tape
 output : w'.output = w.output
 size : w.heap.size ≤ w'.heap.size
 block : ∀ k, k < w.heap.size → ¬ S k → w'.heap[k]? = w.heap[k]?
theorem But.trans {S : Nat → Prop} {w w1 w' : World} (h : But S w w1) (h' : But S w1 w') : But S w w' :=
 ⟨h'.os.trans h.os, h'.tape.trans h.tape, h'.output.trans h.output, Nat.le_trans h.size h'.size, fun k hk hs => (h'.block k (Nat.lt_of_lt_of_le hk h.size) hs).trans (h.block k hk hs)⟩
theorem But.grown {S : Nat → Prop} {w w' : World} {b : Nat} (h : w.grownBy w' (some b)) (hb : S b) : But S w w' :=
 ⟨h.os, h.tape, h.output, h.size, fun k hk hs => h.block k hk (fun e => hs (by cases e; exact hb))⟩
theorem But.below {S : Nat → Prop} {w w' : World} (h : Below w.heap.size w w') : But S w w' := ⟨h.os, h.tape, h.output, h.size, fun k hk _ => h.block k hk⟩
theorem But.setCell {S : Nat → Prop} {w w1 : World} (h : But S w w1) {p : Addr} (hp : S p.block) (u : Value) : But S w (w1.setCell p u) :=
 ⟨h.os, h.tape, h.output, by simpa [World.setCell] using h.size, fun k hk hs => (Below.heap_setCell w1 p u k (fun e => hs (by rw [e]; exact hp))).trans (h.block k hk hs)⟩
theorem But.set4 {S : Nat → Prop} {w w1 : World} (h : But S w w1) {g : Nat} (hp : S g) (u0 u1 u2 u3 : Value) : But S w ((((w1.setCell ⟨g, 0, none⟩ u0).setCell ⟨g, 1, none⟩ u1).setCell ⟨g, 2, none⟩ u2).setCell ⟨g, 3, none⟩ u3) :=
 (((h.setCell (p := ⟨g, 0, none⟩) hp u0).setCell (p := ⟨g, 1, none⟩) hp u1).setCell (p := ⟨g, 2, none⟩) hp u2).setCell (p := ⟨g, 3, none⟩) hp u3
theorem But.to_below {S : Nat → Prop} {w w' : World} {B : Nat} (h : But S w w') (hB : B ≤ w.heap.size) (hS : ∀ k, k < B → ¬ S k) : Below B w w' :=
 ⟨h.os, h.tape, h.output, h.size, fun k hk => h.block k (by omega) (hS k hk)⟩
theorem TX.other {w : World} {b : Nat} {T : TypeId} {cs : Array Value} {s : List UInt8} {p g : Nat} (h : TX w b T cs s p) (hne : g ≠ b) (j : Nat) (u : Value) : TX (w.setCell ⟨g, j, none⟩ u) b T cs s p :=
 ⟨(Below.heap_setCell w ⟨g, j, none⟩ u b (fun e => hne e.symm)).trans h.heap, h.c0, h.c1, h.p, h.s⟩
theorem TX.other4 {w : World} {b : Nat} {T : TypeId} {cs : Array Value} {s : List UInt8} {p g : Nat} (h : TX w b T cs s p) (hne : g ≠ b) (u0 u1 u2 u3 : Value) : TX ((((w.setCell ⟨g, 0, none⟩ u0).setCell ⟨g, 1, none⟩ u1).setCell ⟨g, 2, none⟩ u2).setCell ⟨g, 3, none⟩ u3) b T cs s p :=
 (((h.other hne 0 u0).other hne 1 u1).other hne 2 u2).other hne 3 u3
theorem Four.but {S : Nat → Prop} {w0 w' : World} {g : Nat} {t : TypeId} {v0 v1 v2 v3 : Value} (h : Four w0 g t v0 v1 v2 v3) (hg : But S w0 w') (hne : ¬ S g) : Four w' g t v0 v1 v2 v3 :=
 ⟨(hg.block g h.lt hne).trans h.heap⟩
section
variable {b : Nat} {T : TypeId} {cs : Array Value} {s : List UInt8}
theorem brk1_no (g : Nat) (w : World) (h : TX w b T cs s 0) (hm : MaxL w) (hb : b ≠ 1) (hT : T ≠ 24) (hr : brkP s = none) :
  Calls Tryz.prog 123 #[.pointer (some ⟨b, 0, none⟩), .pointer (some ⟨g, 0, none⟩)] w fun e w' => e = Pan 42 0 ∧ w.grownBy w' (some b) := by
 have hl := list_c w h hm hb hT
 rw [hr] at hl
 have HL := Lib.hid hl
 clear hl hr h hm
 go_enter Tryz.func123, Tryz.ntmps123
 go_wp2_with fail
 refine HL.out.mono ?_
 rintro e w1 ⟨rfl, hg⟩
 unfold Pan
 go_wp2
 exact ⟨rfl, rfl, hg⟩
theorem brk1_yes (g : Nat) (w : World) (h : TX w b T cs s 0) (hm : MaxL w) (hb : b ≠ 1) (hT : T ≠ 24) (F : Nat → Bool) (m : Nat) (hr : brkP s = some (F, m))
  (hA : Four w g 24 (.int .u64 0) (.int .u64 0) (.int .u64 0) (.int .u64 0)) (hgb : g ≠ b) :
  Calls Tryz.prog 123 #[.pointer (some ⟨b, 0, none⟩), .pointer (some ⟨g, 0, none⟩)] w fun e w' => e = .returned (.tuple #[]) ∧ TX w' b T (cs.setIfInBounds 1 (.int .i64 (m : Int))) s m ∧ FourS w' g F ∧ But (fun k => k = b ∨ k = g) w w' := by
 have hl := list_c w h hm hb hT
 rw [hr] at hl
 have HL := Lib.hid hl
 have HA := Lib.hid hA
 clear hl hr h hm hA
 go_enter Tryz.func123, Tryz.ntmps123
 go_wp2_with fail
 refine HL.out.mono ?_
 rintro e w1 ⟨rfl, hm1⟩
 have r := Four.mv HA.out hm1.g hgb
 have rc0 := r.c0; have rc1 := r.c1; have rc2 := r.c2; have rc3 := r.c3
 have rf0 := r.fz 0; have rf1 := r.fz 1; have rf2 := r.fz 2; have rf3 := r.fz 3
 have q := FourS.set r F
 have hx := hm1.x.other4 hgb (.int .u64 (wd F 0)) (.int .u64 (wd F 1)) (.int .u64 (wd F 2)) (.int .u64 (wd F 3))
 have hbt : But (fun k => k = b ∨ k = g) w ((((w1.setCell ⟨g, 0, none⟩ (.int .u64 (wd F 0))).setCell ⟨g, 1, none⟩ (.int .u64 (wd F 1))).setCell ⟨g, 2, none⟩ (.int .u64 (wd F 2))).setCell ⟨g, 3, none⟩ (.int .u64 (wd F 3))) :=
  (But.grown hm1.g (.inl rfl)).set4 (.inr rfl) _ _ _ _
 have HX := Lib.hid hx
 have HB := Lib.hid hbt
 have HQ := Lib.hid q
 clear hx hbt q r HL HA hm1
 simp only [sv]
 go_wp2
 go_end0
 exact ⟨rfl, HX.out, HQ.out, HB.out⟩
end
theorem bracket_c (s : List UInt8) (hs : s.length ≤ 100000) (w : World) (hm : MaxL w) :
  Calls Tryz.prog 94 #[.string ⟨s.toArray⟩] w fun e w' => (match brkP s with
   | some (F, m) => e = .returned (.tuple #[sv F, .int .i64 (m : Int), .int .i64 0])
   | none => e = .returned (.tuple #[sv fun _ => false, .int .i64 0, .int .i64 42])) ∧ Below w.heap.size w w' := by
 have hmf : ∀ (fn : Fn) (first cap : Array Value) (w : World), (Instr.makeFunc fn first cap).run Tryz.prog w = .ok (.func fn first cap) w := fun _ _ _ _ => rfl
 have hml : 1 < w.heap.size := by obtain ⟨m, h⟩ := hm; exact cell_lt h
 have hw3 : (((w.alloc (.cells #[.int .u64 0, .int .u64 0, .int .u64 0, .int .u64 0] 24)).alloc (.cells #[.string ⟨s.toArray⟩, .int .i64 0] 150)).alloc (.cells #[.int .u64 0, .int .u64 0, .int .u64 0, .int .u64 0] 24)).heap.size = w.heap.size + 1 + 1 + 1 := by rw [World.size_alloc, World.size_alloc, World.size_alloc]
 have r0 := Four.new w 24 (.int .u64 0) (.int .u64 0) (.int .u64 0) (.int .u64 0)
 have x0 : TX ((w.alloc (.cells #[.int .u64 0, .int .u64 0, .int .u64 0, .int .u64 0] 24)).alloc (.cells #[.string ⟨s.toArray⟩, .int .i64 0] 150)) (w.heap.size + 1) 150 #[.string ⟨s.toArray⟩, .int .i64 0] s 0 := ⟨by
  have := heap_new (w.alloc (.cells #[.int .u64 0, .int .u64 0, .int .u64 0, .int .u64 0] 24)) (.cells #[.string ⟨s.toArray⟩, .int .i64 0] 150)
  rwa [World.size_alloc] at this, rfl, rfl, Nat.zero_le _, hs⟩
 have a0 := Four.new ((w.alloc (.cells #[.int .u64 0, .int .u64 0, .int .u64 0, .int .u64 0] 24)).alloc (.cells #[.string ⟨s.toArray⟩, .int .i64 0] 150)) 24 (.int .u64 0) (.int .u64 0) (.int .u64 0) (.int .u64 0)
 rw [World.size_alloc, World.size_alloc] at a0
 have r3 := (r0.alloc (.cells #[.string ⟨s.toArray⟩, .int .i64 0] 150)).alloc (.cells #[.int .u64 0, .int .u64 0, .int .u64 0, .int .u64 0] 24)
 have x3 := x0.below ((Below.refl _ _).alloc (Nat.le_refl _) (.cells #[.int .u64 0, .int .u64 0, .int .u64 0, .int .u64 0] 24))
 have b3 : Below w.heap.size w (((w.alloc (.cells #[.int .u64 0, .int .u64 0, .int .u64 0, .int .u64 0] 24)).alloc (.cells #[.string ⟨s.toArray⟩, .int .i64 0] 150)).alloc (.cells #[.int .u64 0, .int .u64 0, .int .u64 0, .int .u64 0] 24)) := (((Below.refl _ w).alloc (Nat.le_refl _) _).alloc (by simp) _).alloc (by simp; omega) _
 clear r0 x0
 obtain ⟨W3, hW3⟩ : ∃ W3, W3 = (((w.alloc (.cells #[.int .u64 0, .int .u64 0, .int .u64 0, .int .u64 0] 24)).alloc (.cells #[.string ⟨s.toArray⟩, .int .i64 0] 150)).alloc (.cells #[.int .u64 0, .int .u64 0, .int .u64 0, .int .u64 0] 24)) := ⟨_, rfl⟩
 rw [← hW3] at hw3 r3 x3 b3 a0
 have HW3 := Lib.hid hW3
 clear hW3
 have b4 := (Below.refl _ W3).alloc (Nat.le_refl _) (.cells #[.int .i64 0, .int .i64 0] 152)
 have x4 := x3.below b4
 have a4 := a0.below b4 a0.lt
 have r4 := r3.below b4 r3.lt
 have m4 := (hm.below b3).below b4
 have v4 := FV.new W3 0 0
 have B3 := Lib.hid b3
 have B4 := Lib.hid b4
 have hen : ∀ w' : World, (callFunc 123 #[.pointer (some ⟨w.heap.size + 1, 0, none⟩), .pointer (some ⟨w.heap.size + 1 + 1, 0, none⟩)]).run Tryz.prog w' = .ok (.enter 123 #[.pointer (some ⟨w.heap.size + 1, 0, none⟩), .pointer (some ⟨w.heap.size + 1 + 1, 0, none⟩)]) w' := fun w' => by simp [go_sem]
 cases hr : brkP s with
 | none =>
  have hf := fault_yes 123 #[.pointer (some ⟨w.heap.size + 1, 0, none⟩), .pointer (some ⟨w.heap.size + 1 + 1, 0, none⟩)] 42 0 W3 (fun w' => (W3.alloc (.cells #[.int .i64 0, .int .i64 0] 152)).grownBy w' (some (w.heap.size + 1))) hen (fun W hW => by
   subst hW
   refine (brk1_no (w.heap.size + 1 + 1) _ x4 m4 (by omega) (by decide) hr).mono ?_
   rintro e w' ⟨rfl, hg⟩
   exact ⟨rfl, ⟨(hg.block _ v4.lt (fun e => by have := Option.some.inj e; omega)).trans v4.heap⟩, hg⟩)
  have HF := Lib.hid hf
  have R4 := Lib.hid r4
  clear hf x4 a4 r4 m4 v4 x3 a0 r3 b3 b4 hm hr
  go_enter Tryz.func94, Tryz.ntmps94
  go_wp2_with fail
  rw [← HW3.out]
  clear HW3
  refine HF.out.mono ?_
  rintro e w5 ⟨rfl, w4, hg1, hg2⟩
  have r5 := (R4.out.mv hg1 (by omega)).mv hg2 (by omega)
  have hb5 : Below w.heap.size w w5 := by
   have B34 := B3.out.trans (B4.out.mono B3.out.size)
   have h1 : But (fun k => k = w.heap.size + 1 ∨ k = W3.heap.size) (W3.alloc (.cells #[.int .i64 0, .int .i64 0] 152)) w5 := (But.grown hg1 (.inl rfl)).trans (But.grown hg2 (.inr rfl))
   exact B34.trans (h1.to_below B34.size (fun k hk => by omega))
  have r5l := r5.lt
  have r5c0 := r5.c0
  have r5c1 := r5.c1
  have r5c2 := r5.c2
  have r5c3 := r5.c3
  have r5f0 := r5.fz 0
  have r5f1 := r5.fz 1
  have r5f2 := r5.fz 2
  have r5f3 := r5.fz 3
  go_wp2_with fail
  go_region
  have q := ((r5.set (.int .u64 0) (.int .u64 0) (.int .u64 0) (.int .u64 0)).alloc (.cells #[.int .i64 42, .int .i64 0] 152)).drew
  have hbq := ((Below.set4 hb5 (Nat.le_refl _) (.int .u64 0) (.int .u64 0) (.int .u64 0) (.int .u64 0)).alloc (by simpa [World.setCell] using hb5.size) (.cells #[.int .i64 42, .int .i64 0] 152)).drew
  have qc0 := q.c0
  have qc1 := q.c1
  have qc2 := q.c2
  have qc3 := q.c3
  go_wp2
  refine bodyPost_ret (v := .tuple #[.agg #[.int .u64 0, .int .u64 0, .int .u64 0, .int .u64 0], .int .i64 0, .int .i64 42]) (by simp [results, Tryz.results94, go_sem, qc0, qc1, qc2, qc3]) rfl ?_
  exact ⟨by rw [sv_none], hbq⟩
 | some q =>
  obtain ⟨F, m⟩ := q
  have hf := fault_no 123 #[.pointer (some ⟨w.heap.size + 1, 0, none⟩), .pointer (some ⟨w.heap.size + 1 + 1, 0, none⟩)] W3 (fun w' => TX w' (w.heap.size + 1) 150 (#[.string ⟨s.toArray⟩, .int .i64 0].setIfInBounds 1 (.int .i64 (m : Int))) s m ∧ FourS w' (w.heap.size + 1 + 1) F ∧ But (fun k => k = w.heap.size + 1 ∨ k = w.heap.size + 1 + 1) (W3.alloc (.cells #[.int .i64 0, .int .i64 0] 152)) w') hen (fun W hW => by
   subst hW
   refine (brk1_yes (w.heap.size + 1 + 1) _ x4 m4 (by omega) (by decide) F m hr a4 (by omega)).mono ?_
   rintro e w' ⟨rfl, hx, ha, hbt⟩
   exact ⟨rfl, ⟨(hbt.block _ v4.lt (fun e => by omega)).trans v4.heap⟩, hx, ha, hbt⟩)
  have HF := Lib.hid hf
  have R4 := Lib.hid r4
  clear hf x4 a4 r4 m4 v4 x3 a0 r3 b3 b4 hm hr
  go_enter Tryz.func94, Tryz.ntmps94
  go_wp2_with fail
  rw [← HW3.out]
  clear HW3
  refine HF.out.mono ?_
  rintro e w5 ⟨rfl, w4, ⟨hx4, ha4, hbt⟩, hg2⟩
  have r5 := (Four.but R4.out hbt (by omega)).mv hg2 (by omega)
  have a5 := Four.mv ha4 hg2 (by have := B4.out.size; omega)
  have x5 : TX w5 (w.heap.size + 1) 150 (#[.string ⟨s.toArray⟩, .int .i64 0].setIfInBounds 1 (.int .i64 (m : Int))) s m := ⟨(hg2.block _ hx4.lt (fun e => by have := Option.some.inj e; omega)).trans hx4.heap, hx4.c0, hx4.c1, hx4.p, hx4.s⟩
  have hb5 : Below w.heap.size w w5 := by
   have B34 := B3.out.trans (B4.out.mono B3.out.size)
   have h1 : But (fun k => (k = w.heap.size + 1 ∨ k = w.heap.size + 1 + 1) ∨ k = W3.heap.size) (W3.alloc (.cells #[.int .i64 0, .int .i64 0] 152)) w5 := (⟨hbt.os, hbt.tape, hbt.output, hbt.size, fun k hk hs => hbt.block k hk (fun e => hs (.inl e))⟩ : But _ _ _).trans (But.grown hg2 (.inr rfl))
   exact B34.trans (h1.to_below B34.size (fun k hk => by omega))
  have r5l := r5.lt
  have a5l := a5.lt
  have x5l := x5.lt
  have d1 := x5.cell1
  have r5c0 := r5.c0
  have r5c1 := r5.c1
  have r5c2 := r5.c2
  have r5c3 := r5.c3
  have r5f0 := r5.fz 0
  have r5f1 := r5.fz 1
  have r5f2 := r5.fz 2
  have r5f3 := r5.fz 3
  have a5c0 := a5.c0
  have a5c1 := a5.c1
  have a5c2 := a5.c2
  have a5c3 := a5.c3
  have HX := Lib.hid x5
  have HA := Lib.hid a5
  clear x5 a5 hx4 ha4
  go_wp2_with fail
  go_region
  have q := ((FourS.set r5 F).alloc (.cells #[.int .i64 0, .int .i64 0] 152)).drew
  have hbq := ((Below.set4 hb5 (Nat.le_refl _) (.int .u64 (wd F 0)) (.int .u64 (wd F 1)) (.int .u64 (wd F 2)) (.int .u64 (wd F 3))).alloc (by simpa [World.setCell] using hb5.size) (.cells #[.int .i64 0, .int .i64 0] 152)).drew
  have qc0 := q.c0
  have qc1 := q.c1
  have qc2 := q.c2
  have qc3 := q.c3
  go_wp2
  refine bodyPost_ret (v := .tuple #[.agg #[.int .u64 (wd F 0), .int .u64 (wd F 1), .int .u64 (wd F 2), .int .u64 (wd F 3)], .int .i64 (m : Int), .int .i64 0]) (by simp [results, Tryz.results94, go_sem, qc0, qc1, qc2, qc3]) rfl ?_
  exact ⟨rfl, hbq⟩
end Go.Proofs.YtdjcgjkbecncaaaGreatDoor
