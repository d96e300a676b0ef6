/- What is wrong is recovered: the walks. -/
import Derived.Test.YtkcbknfhckomcaaGreatDoorYBrF
import Derived.Defers
import Derived.Recover
import Derived.Test.YtkcbknfhckomcaaGreatDoorYBrH
import Derived.Test.YtkcbknfhckomcaaGreatDoorYSetZ
import Derived.Test.YtkcbknfhckomcaaGreatDoorYRxK
set_option linter.unusedVariables false
set_option linter.unusedSimpArgs false
set_option maxRecDepth 100000
set_option maxHeartbeats 40000000
namespace Go.Proofs.YtkcbknfhckomcaaGreatDoor
open Go.RowKit
structure FV (w : World) (g : Nat) (z a : Int) : Prop where
 heap : w.heap[g]? = some (.cells #[.int .i64 z, .int .i64 a] 54 (0, 0))
section
variable {w w' : World} {g : Nat} {z a : Int}
theorem FV.c0 (h : FV w g z a) : w.cell? ⟨g, 0, none⟩ = some (.int .i64 z) := (cell_of _ _ _ _ h.heap 0)
theorem FV.c1 (h : FV w g z a) : w.cell? ⟨g, 1, none⟩ = some (.int .i64 a) := (cell_of _ _ _ _ h.heap 1)
theorem FV.fz (h : FV w g z a) (j : Nat) : w.frozen? ⟨g, j, none⟩ = false := frozen_of _ _ _ _ h.heap j
theorem FV.lt (h : FV w g z a) : g < w.heap.size := (Array.getElem?_eq_some_iff.1 h.heap).1
theorem FV.below {B : Nat} (h : FV w g z a) (hB : Below B w w') (hb : g < B) : FV w' g z a := ⟨(hB.block g hb).trans h.heap⟩
theorem FV.new (w : World) (z a : Int) : FV (w.alloc (.cells #[.int .i64 z, .int .i64 a] 54)) w.heap.size z a := ⟨heap_new w _⟩
theorem FV.set (h : FV w g z a) (z' a' : Int) : FV ((w.setCell ⟨g, 0, none⟩ (.int .i64 z')).setCell ⟨g, 1, none⟩ (.int .i64 a')) g z' a' := ⟨by
 rw [heap_setCell_same _ g 1 _ _ _ (heap_setCell_same _ g 0 _ _ _ h.heap)]; rfl⟩
end
theorem catch_fault (g : Nat) (z a : Int) (older : List PanicEntry) (w : World) (h : FV w g 0 0) :
  CallsD Tryz.prog 34 #[.pointer (some ⟨g, 0, none⟩)] (.panicking ({ v := .iface 54 (.agg #[.int .i64 z, .int .i64 a]), recovered := false } :: older)) w fun e u' w' =>
   e = .returned (.tuple #[]) ∧ u' = .panicking ({ v := .iface 54 (.agg #[.int .i64 z, .int .i64 a]), recovered := true } :: older) ∧ FV w' g z a ∧ w.grownBy w' (some g) := by
 have c0 := h.c0
 have c1 := h.c1
 have f0 := h.fz 0
 have f1 := h.fz 1
 have hlt := h.lt
 refine callsD_of_wpS Tryz.func34 rfl fun c₀ cs hu => ?_
 apply wpS_seq
 apply wpS_region
 simp [wpOpsS, go_sem, recoverD, hu, Tryz.ntmps34, Exit.thenS]
 refine wpS_of_wp ?_
 have hta : ∀ w : World, (Instr.typeAssert (.iface 54 (.agg #[.int .i64 z, .int .i64 a])) 20 54 true).run Tryz.prog w = .ok (.tuple #[.agg #[.int .i64 z, .int .i64 a], .bool true]) w := fun _ => by kernel_rfl
 have hB := (Below.refl ((w.setCell ⟨g, 0, none⟩ (.int .i64 z)).setCell ⟨g, 1, none⟩ (.int .i64 a)).heap.size ((w.setCell ⟨g, 0, none⟩ (.int .i64 z)).setCell ⟨g, 1, none⟩ (.int .i64 a))).alloc (Nat.le_refl _) (.cells #[.int .i64 z, .int .i64 a] 54)
 have q := FV.below (h.set z a) hB (h.set z a).lt
 have gr0 : w.grownBy w (some g) := ⟨rfl, rfl, rfl, Nat.le_refl _, fun _ _ _ => rfl⟩
 have gr := (grown_setc (grown_setc gr0 0 (.int .i64 z)) 1 (.int .i64 a)).trans (grownB (row := some g) hB)
 have HQ := Lib.hid q
 have HG := Lib.hid gr
 clear hB q gr0 gr h
 go_wp2
 have q := HQ.out
 have gr := HG.out
 cases c₀
 simp [bodyPostS, results, Tryz.results34] at hu ⊢
 exact ⟨q, gr⟩
theorem catch_idle (g : Nat) (w : World) :
  CallsD Tryz.prog 34 #[.pointer (some ⟨g, 0, none⟩)] .returning w fun e u' w' => e = .returned (.tuple #[]) ∧ u' = .returning ∧ w' = w := by
 refine callsD_of_wpS Tryz.func34 rfl fun c₀ cs hu => ?_
 apply wpS_seq
 apply wpS_region
 simp [wpOpsS, go_sem, recoverD, hu, Tryz.ntmps34, Exit.thenS]
 refine wpS_of_wp ?_
 go_wp2
 cases c₀
 simp_all [bodyPostS, results, Tryz.results34]
theorem fault_yes (K : FuncId) (cap : Array Value) (z a : Int) (w : World) (Q : World → Prop) (hen : ∀ w, (callFunc K cap).run Tryz.prog w = .ok (.enter K cap) w)
  (hK : ∀ W, W = w.alloc (.cells #[.int .i64 0, .int .i64 0] 54) → Calls Tryz.prog K cap W fun e w' => e = Pan z a ∧ FV w' w.heap.size 0 0 ∧ Q w') :
  Calls Tryz.prog 18 #[.func (.func K) #[] cap] w fun e w' => e = .returned (.agg #[.int .i64 z, .int .i64 a]) ∧ ∃ w1, Q w1 ∧ w1.grownBy w' (some w.heap.size) := by
 have hmf : ∀ (fn : Fn) (first cap : Array Value) (w : World), (Instr.makeFunc fn first cap).run Tryz.prog w = .ok (.func fn first cap) w := fun _ _ _ _ => rfl
 have HK := Lib.hid (hK _ rfl)
 clear hK
 go_enter_defers Tryz.func18, Tryz.ntmps18
 go_wp2_with fail
 refine HK.out.mono ?_
 rintro e w1 ⟨rfl, hF, hQ⟩
 unfold Pan
 go_wp2
 refine leaves_cons (f := 34) (args := #[.pointer (some ⟨w.heap.size, 0, none⟩)]) (by simp) (by simp [go_sem]) ?_
 refine (catch_fault w.heap.size z a [] _ hF).mono ?_
 rintro e u' w'' ⟨rfl, rfl, hF2, hG⟩
 have c0 := hF2.c0
 have c1 := hF2.c1
 simp [Leaves, settle, results, Tryz.results18, go_sem, c0, c1]
 exact ⟨w1, hQ, hG⟩
theorem fault_no (K : FuncId) (cap : Array Value) (w : World) (Q : World → Prop) (hen : ∀ w, (callFunc K cap).run Tryz.prog w = .ok (.enter K cap) w)
  (hK : ∀ W, W = w.alloc (.cells #[.int .i64 0, .int .i64 0] 54) → Calls Tryz.prog K cap W fun e w' => e = .returned (.tuple #[]) ∧ FV w' w.heap.size 0 0 ∧ Q w') :
  Calls Tryz.prog 18 #[.func (.func K) #[] cap] w fun e w' => e = .returned (.agg #[.int .i64 0, .int .i64 0]) ∧ ∃ w1, Q w1 ∧ w1.grownBy w' (some w.heap.size) := by
 have hmf : ∀ (fn : Fn) (first cap : Array Value) (w : World), (Instr.makeFunc fn first cap).run Tryz.prog w = .ok (.func fn first cap) w := fun _ _ _ _ => rfl
 have HK := Lib.hid (hK _ rfl)
 clear hK
 go_enter_defers Tryz.func18, Tryz.ntmps18
 go_wp2_with fail
 refine HK.out.mono ?_
 rintro e w1 ⟨rfl, hF, hQ⟩
 have c0 := hF.c0
 have c1 := hF.c1
 have f0 := hF.fz 0
 have f1 := hF.fz 1
 have q := hF.set 0 0
 have gr0 : w1.grownBy w1 (some w.heap.size) := ⟨rfl, rfl, rfl, Nat.le_refl _, fun _ _ _ => rfl⟩
 have gr := grown_setc (grown_setc gr0 0 (.int .i64 0)) 1 (.int .i64 0)
 have d0 := q.c0
 have d1 := q.c1
 have HG := Lib.hid gr
 clear q gr0 gr HK hF
 go_wp2
 refine leaves_cons (f := 34) (args := #[.pointer (some ⟨w.heap.size, 0, none⟩)]) (by simp) (by simp [go_sem]) ?_
 refine (catch_idle w.heap.size _).mono ?_
 rintro e u' w'' ⟨rfl, rfl, rfl⟩
 simp [Leaves, settle, results, Tryz.results18, go_sem, d0, d1]
 exact ⟨w1, hQ, HG.out⟩
end Go.Proofs.YtkcbknfhckomcaaGreatDoor
namespace Go.Proofs.YtkcbknfhckomcaaGreatDoor
open Go.RowKit
structure But (S : Nat → Prop) (w w' : World) : Prop where
 os : w'.os = w.os
 tape : w'.tape = w.tape
 output : w'.output = w.output
 size : w.heap.size ≤ w'.heap.size
 block : ∀ k, k < w.heap.size → ¬ S k → w'.heap[k]? = w.heap[k]?
theorem But.trans {S : Nat → Prop} {w w1 w' : World} (h : But S w w1) (h' : But S w1 w') : But S w w' :=
 ⟨h'.os.trans h.os, h'.tape.trans h.tape, h'.output.trans h.output, Nat.le_trans h.size h'.size, fun k hk hs => (h'.block k (Nat.lt_of_lt_of_le hk h.size) hs).trans (h.block k hk hs)⟩
theorem But.grown {S : Nat → Prop} {w w' : World} {b : Nat} (h : w.grownBy w' (some b)) (hb : S b) : But S w w' :=
 ⟨h.os, h.tape, h.output, h.size, fun k hk hs => h.block k hk (fun e => hs (by cases e; exact hb))⟩
theorem But.below {S : Nat → Prop} {w w' : World} (h : Below w.heap.size w w') : But S w w' := ⟨h.os, h.tape, h.output, h.size, fun k hk _ => h.block k hk⟩
theorem But.setCell {S : Nat → Prop} {w w1 : World} (h : But S w w1) {p : Addr} (hp : S p.block) (u : Value) : But S w (w1.setCell p u) :=
 ⟨h.os, h.tape, h.output, by simpa [World.setCell] using h.size, fun k hk hs => (Below.heap_setCell w1 p u k (fun e => hs (by rw [e]; exact hp))).trans (h.block k hk hs)⟩
theorem But.set4 {S : Nat → Prop} {w w1 : World} (h : But S w w1) {g : Nat} (hp : S g) (u0 u1 u2 u3 : Value) : But S w ((((w1.setCell ⟨g, 0, none⟩ u0).setCell ⟨g, 1, none⟩ u1).setCell ⟨g, 2, none⟩ u2).setCell ⟨g, 3, none⟩ u3) :=
 (((h.setCell (p := ⟨g, 0, none⟩) hp u0).setCell (p := ⟨g, 1, none⟩) hp u1).setCell (p := ⟨g, 2, none⟩) hp u2).setCell (p := ⟨g, 3, none⟩) hp u3
theorem But.to_below {S : Nat → Prop} {w w' : World} {B : Nat} (h : But S w w') (hB : B ≤ w.heap.size) (hS : ∀ k, k < B → ¬ S k) : Below B w w' :=
 ⟨h.os, h.tape, h.output, h.size, fun k hk => h.block k (by omega) (hS k hk)⟩
theorem TX.other {w : World} {b : Nat} {T : TypeId} {cs : Array Value} {s : List UInt8} {p g : Nat} (h : TX w b T cs s p) (hne : g ≠ b) (j : Nat) (u : Value) : TX (w.setCell ⟨g, j, none⟩ u) b T cs s p :=
 ⟨(Below.heap_setCell w ⟨g, j, none⟩ u b (fun e => hne e.symm)).trans h.heap, h.c0, h.c1, h.p, h.s⟩
theorem TX.other4 {w : World} {b : Nat} {T : TypeId} {cs : Array Value} {s : List UInt8} {p g : Nat} (h : TX w b T cs s p) (hne : g ≠ b) (u0 u1 u2 u3 : Value) : TX ((((w.setCell ⟨g, 0, none⟩ u0).setCell ⟨g, 1, none⟩ u1).setCell ⟨g, 2, none⟩ u2).setCell ⟨g, 3, none⟩ u3) b T cs s p :=
 (((h.other hne 0 u0).other hne 1 u1).other hne 2 u2).other hne 3 u3
theorem Four.but {S : Nat → Prop} {w0 w' : World} {g : Nat} {t : TypeId} {v0 v1 v2 v3 : Value} (h : Four w0 g t v0 v1 v2 v3) (hg : But S w0 w') (hne : ¬ S g) : Four w' g t v0 v1 v2 v3 :=
 ⟨(hg.block g h.lt hne).trans h.heap⟩
section
variable {b : Nat} {T : TypeId} {cs : Array Value} {s : List UInt8}
theorem brk1_no (g : Nat) (w : World) (h : TX w b T cs s 0) (hm : MaxL w) (hb : b ≠ 2) (hT : T ≠ 38) (hr : brkP s = none) :
  Calls Tryz.prog 122 #[.pointer (some ⟨b, 0, none⟩), .pointer (some ⟨g, 0, none⟩)] w fun e w' => e = Pan 42 0 ∧ w.grownBy w' (some b) := by
 have hl := list_c w h hm hb hT
 rw [hr] at hl
 have HL := Lib.hid hl
 clear hl hr h hm
 go_enter Tryz.func122, Tryz.ntmps122
 go_wp2_with fail
 refine HL.out.mono ?_
 rintro e w1 ⟨rfl, hg⟩
 unfold Pan
 go_wp2
 exact ⟨rfl, rfl, hg⟩
theorem brk1_yes (g : Nat) (w : World) (h : TX w b T cs s 0) (hm : MaxL w) (hb : b ≠ 2) (hT : T ≠ 38) (F : Nat → Bool) (m : Nat) (hr : brkP s = some (F, m))
  (hA : Four w g 38 (.int .u64 0) (.int .u64 0) (.int .u64 0) (.int .u64 0)) (hgb : g ≠ b) :
  Calls Tryz.prog 122 #[.pointer (some ⟨b, 0, none⟩), .pointer (some ⟨g, 0, none⟩)] w fun e w' => e = .returned (.tuple #[]) ∧ TX w' b T (cs.setIfInBounds 1 (.int .i64 (m : Int))) s m ∧ FourS w' g F ∧ But (fun k => k = b ∨ k = g) w w' := by
 have hl := list_c w h hm hb hT
 rw [hr] at hl
 have HL := Lib.hid hl
 have HA := Lib.hid hA
 clear hl hr h hm hA
 go_enter Tryz.func122, Tryz.ntmps122
 go_wp2_with fail
 refine HL.out.mono ?_
 rintro e w1 ⟨rfl, hm1⟩
 have r := Four.mv HA.out hm1.g hgb
 have rc0 := r.c0; have rc1 := r.c1; have rc2 := r.c2; have rc3 := r.c3
 have rf0 := r.fz 0; have rf1 := r.fz 1; have rf2 := r.fz 2; have rf3 := r.fz 3
 have q := FourS.set r F
 have hx := hm1.x.other4 hgb (.int .u64 (wd F 0)) (.int .u64 (wd F 1)) (.int .u64 (wd F 2)) (.int .u64 (wd F 3))
 have hbt : But (fun k => k = b ∨ k = g) w ((((w1.setCell ⟨g, 0, none⟩ (.int .u64 (wd F 0))).setCell ⟨g, 1, none⟩ (.int .u64 (wd F 1))).setCell ⟨g, 2, none⟩ (.int .u64 (wd F 2))).setCell ⟨g, 3, none⟩ (.int .u64 (wd F 3))) :=
  (But.grown hm1.g (.inl rfl)).set4 (.inr rfl) _ _ _ _
 have HX := Lib.hid hx
 have HB := Lib.hid hbt
 have HQ := Lib.hid q
 clear hx hbt q r HL HA hm1
 simp only [sv]
 go_wp2
 go_end0
 exact ⟨rfl, HX.out, HQ.out, HB.out⟩
end
theorem bracket_c (s : List UInt8) (hs : s.length ≤ 100000) (w : World) (hm : MaxL w) :
  Calls Tryz.prog 107 #[.string ⟨s.toArray⟩] w fun e w' => (match brkP s with
   | some (F, m) => e = .returned (.tuple #[sv F, .int .i64 (m : Int), .int .i64 0])
   | none => e = .returned (.tuple #[sv fun _ => false, .int .i64 0, .int .i64 42])) ∧ Below w.heap.size w w' := by
 have hmf : ∀ (fn : Fn) (first cap : Array Value) (w : World), (Instr.makeFunc fn first cap).run Tryz.prog w = .ok (.func fn first cap) w := fun _ _ _ _ => rfl
 have hml : 2 < w.heap.size := by obtain ⟨m, h⟩ := hm; exact cell_lt h
 have hw3 : (((w.alloc (.cells #[.int .u64 0, .int .u64 0, .int .u64 0, .int .u64 0] 38)).alloc (.cells #[.string ⟨s.toArray⟩, .int .i64 0] 49)).alloc (.cells #[.int .u64 0, .int .u64 0, .int .u64 0, .int .u64 0] 38)).heap.size = w.heap.size + 1 + 1 + 1 := by rw [World.size_alloc, World.size_alloc, World.size_alloc]
 have r0 := Four.new w 38 (.int .u64 0) (.int .u64 0) (.int .u64 0) (.int .u64 0)
 have x0 : TX ((w.alloc (.cells #[.int .u64 0, .int .u64 0, .int .u64 0, .int .u64 0] 38)).alloc (.cells #[.string ⟨s.toArray⟩, .int .i64 0] 49)) (w.heap.size + 1) 49 #[.string ⟨s.toArray⟩, .int .i64 0] s 0 := ⟨by
  have := heap_new (w.alloc (.cells #[.int .u64 0, .int .u64 0, .int .u64 0, .int .u64 0] 38)) (.cells #[.string ⟨s.toArray⟩, .int .i64 0] 49)
  rwa [World.size_alloc] at this, rfl, rfl, Nat.zero_le _, hs⟩
 have a0 := Four.new ((w.alloc (.cells #[.int .u64 0, .int .u64 0, .int .u64 0, .int .u64 0] 38)).alloc (.cells #[.string ⟨s.toArray⟩, .int .i64 0] 49)) 38 (.int .u64 0) (.int .u64 0) (.int .u64 0) (.int .u64 0)
 rw [World.size_alloc, World.size_alloc] at a0
 have r3 := (r0.alloc (.cells #[.string ⟨s.toArray⟩, .int .i64 0] 49)).alloc (.cells #[.int .u64 0, .int .u64 0, .int .u64 0, .int .u64 0] 38)
 have x3 := x0.below ((Below.refl _ _).alloc (Nat.le_refl _) (.cells #[.int .u64 0, .int .u64 0, .int .u64 0, .int .u64 0] 38))
 have b3 : Below w.heap.size w (((w.alloc (.cells #[.int .u64 0, .int .u64 0, .int .u64 0, .int .u64 0] 38)).alloc (.cells #[.string ⟨s.toArray⟩, .int .i64 0] 49)).alloc (.cells #[.int .u64 0, .int .u64 0, .int .u64 0, .int .u64 0] 38)) := (((Below.refl _ w).alloc (Nat.le_refl _) _).alloc (by simp) _).alloc (by simp; omega) _
 clear r0 x0
 obtain ⟨W3, hW3⟩ : ∃ W3, W3 = (((w.alloc (.cells #[.int .u64 0, .int .u64 0, .int .u64 0, .int .u64 0] 38)).alloc (.cells #[.string ⟨s.toArray⟩, .int .i64 0] 49)).alloc (.cells #[.int .u64 0, .int .u64 0, .int .u64 0, .int .u64 0] 38)) := ⟨_, rfl⟩
 rw [← hW3] at hw3 r3 x3 b3 a0
 have HW3 := Lib.hid hW3
 clear hW3
 have b4 := (Below.refl _ W3).alloc (Nat.le_refl _) (.cells #[.int .i64 0, .int .i64 0] 54)
 have x4 := x3.below b4
 have a4 := a0.below b4 a0.lt
 have r4 := r3.below b4 r3.lt
 have m4 := (hm.below b3).below b4
 have v4 := FV.new W3 0 0
 have B3 := Lib.hid b3
 have B4 := Lib.hid b4
 have hen : ∀ w' : World, (callFunc 122 #[.pointer (some ⟨w.heap.size + 1, 0, none⟩), .pointer (some ⟨w.heap.size + 1 + 1, 0, none⟩)]).run Tryz.prog w' = .ok (.enter 122 #[.pointer (some ⟨w.heap.size + 1, 0, none⟩), .pointer (some ⟨w.heap.size + 1 + 1, 0, none⟩)]) w' := fun w' => by simp [go_sem]
 cases hr : brkP s with
 | none =>
  have hf := fault_yes 122 #[.pointer (some ⟨w.heap.size + 1, 0, none⟩), .pointer (some ⟨w.heap.size + 1 + 1, 0, none⟩)] 42 0 W3 (fun w' => (W3.alloc (.cells #[.int .i64 0, .int .i64 0] 54)).grownBy w' (some (w.heap.size + 1))) hen (fun W hW => by
   subst hW
   refine (brk1_no (w.heap.size + 1 + 1) _ x4 m4 (by omega) (by decide) hr).mono ?_
   rintro e w' ⟨rfl, hg⟩
   exact ⟨rfl, ⟨(hg.block _ v4.lt (fun e => by have := Option.some.inj e; omega)).trans v4.heap⟩, hg⟩)
  have HF := Lib.hid hf
  have R4 := Lib.hid r4
  clear hf x4 a4 r4 m4 v4 x3 a0 r3 b3 b4 hm hr
  go_enter Tryz.func107, Tryz.ntmps107
  go_wp2_with fail
  rw [← HW3.out]
  clear HW3
  refine HF.out.mono ?_
  rintro e w5 ⟨rfl, w4, hg1, hg2⟩
  have r5 := (R4.out.mv hg1 (by omega)).mv hg2 (by omega)
  have hb5 : Below w.heap.size w w5 := by
   have B34 := B3.out.trans (B4.out.mono B3.out.size)
   have h1 : But (fun k => k = w.heap.size + 1 ∨ k = W3.heap.size) (W3.alloc (.cells #[.int .i64 0, .int .i64 0] 54)) w5 := (But.grown hg1 (.inl rfl)).trans (But.grown hg2 (.inr rfl))
   exact B34.trans (h1.to_below B34.size (fun k hk => by omega))
  have r5l := r5.lt
  have r5c0 := r5.c0
  have r5c1 := r5.c1
  have r5c2 := r5.c2
  have r5c3 := r5.c3
  have r5f0 := r5.fz 0
  have r5f1 := r5.fz 1
  have r5f2 := r5.fz 2
  have r5f3 := r5.fz 3
  go_wp2_with fail
  go_region
  have q := ((r5.set (.int .u64 0) (.int .u64 0) (.int .u64 0) (.int .u64 0)).alloc (.cells #[.int .i64 42, .int .i64 0] 54)).drew
  have hbq := ((Below.set4 hb5 (Nat.le_refl _) (.int .u64 0) (.int .u64 0) (.int .u64 0) (.int .u64 0)).alloc (by simpa [World.setCell] using hb5.size) (.cells #[.int .i64 42, .int .i64 0] 54)).drew
  have qc0 := q.c0
  have qc1 := q.c1
  have qc2 := q.c2
  have qc3 := q.c3
  go_wp2
  refine bodyPost_ret (v := .tuple #[.agg #[.int .u64 0, .int .u64 0, .int .u64 0, .int .u64 0], .int .i64 0, .int .i64 42]) (by simp [results, Tryz.results107, go_sem, qc0, qc1, qc2, qc3]) rfl ?_
  exact ⟨by rw [sv_none], hbq⟩
 | some q =>
  obtain ⟨F, m⟩ := q
  have hf := fault_no 122 #[.pointer (some ⟨w.heap.size + 1, 0, none⟩), .pointer (some ⟨w.heap.size + 1 + 1, 0, none⟩)] W3 (fun w' => TX w' (w.heap.size + 1) 49 (#[.string ⟨s.toArray⟩, .int .i64 0].setIfInBounds 1 (.int .i64 (m : Int))) s m ∧ FourS w' (w.heap.size + 1 + 1) F ∧ But (fun k => k = w.heap.size + 1 ∨ k = w.heap.size + 1 + 1) (W3.alloc (.cells #[.int .i64 0, .int .i64 0] 54)) w') hen (fun W hW => by
   subst hW
   refine (brk1_yes (w.heap.size + 1 + 1) _ x4 m4 (by omega) (by decide) F m hr a4 (by omega)).mono ?_
   rintro e w' ⟨rfl, hx, ha, hbt⟩
   exact ⟨rfl, ⟨(hbt.block _ v4.lt (fun e => by omega)).trans v4.heap⟩, hx, ha, hbt⟩)
  have HF := Lib.hid hf
  have R4 := Lib.hid r4
  clear hf x4 a4 r4 m4 v4 x3 a0 r3 b3 b4 hm hr
  go_enter Tryz.func107, Tryz.ntmps107
  go_wp2_with fail
  rw [← HW3.out]
  clear HW3
  refine HF.out.mono ?_
  rintro e w5 ⟨rfl, w4, ⟨hx4, ha4, hbt⟩, hg2⟩
  have r5 := (Four.but R4.out hbt (by omega)).mv hg2 (by omega)
  have a5 := Four.mv ha4 hg2 (by have := B4.out.size; omega)
  have x5 : TX w5 (w.heap.size + 1) 49 (#[.string ⟨s.toArray⟩, .int .i64 0].setIfInBounds 1 (.int .i64 (m : Int))) s m := ⟨(hg2.block _ hx4.lt (fun e => by have := Option.some.inj e; omega)).trans hx4.heap, hx4.c0, hx4.c1, hx4.p, hx4.s⟩
  have hb5 : Below w.heap.size w w5 := by
   have B34 := B3.out.trans (B4.out.mono B3.out.size)
   have h1 : But (fun k => (k = w.heap.size + 1 ∨ k = w.heap.size + 1 + 1) ∨ k = W3.heap.size) (W3.alloc (.cells #[.int .i64 0, .int .i64 0] 54)) w5 := (⟨hbt.os, hbt.tape, hbt.output, hbt.size, fun k hk hs => hbt.block k hk (fun e => hs (.inl e))⟩ : But _ _ _).trans (But.grown hg2 (.inr rfl))
   exact B34.trans (h1.to_below B34.size (fun k hk => by omega))
  have r5l := r5.lt
  have a5l := a5.lt
  have x5l := x5.lt
  have d1 := x5.cell1
  have r5c0 := r5.c0
  have r5c1 := r5.c1
  have r5c2 := r5.c2
  have r5c3 := r5.c3
  have r5f0 := r5.fz 0
  have r5f1 := r5.fz 1
  have r5f2 := r5.fz 2
  have r5f3 := r5.fz 3
  have a5c0 := a5.c0
  have a5c1 := a5.c1
  have a5c2 := a5.c2
  have a5c3 := a5.c3
  have HX := Lib.hid x5
  have HA := Lib.hid a5
  clear x5 a5 hx4 ha4
  go_wp2_with fail
  go_region
  have q := ((FourS.set r5 F).alloc (.cells #[.int .i64 0, .int .i64 0] 54)).drew
  have hbq := ((Below.set4 hb5 (Nat.le_refl _) (.int .u64 (wd F 0)) (.int .u64 (wd F 1)) (.int .u64 (wd F 2)) (.int .u64 (wd F 3))).alloc (by simpa [World.setCell] using hb5.size) (.cells #[.int .i64 0, .int .i64 0] 54)).drew
  have qc0 := q.c0
  have qc1 := q.c1
  have qc2 := q.c2
  have qc3 := q.c3
  go_wp2
  refine bodyPost_ret (v := .tuple #[.agg #[.int .u64 (wd F 0), .int .u64 (wd F 1), .int .u64 (wd F 2), .int .u64 (wd F 3)], .int .i64 (m : Int), .int .i64 0]) (by simp [results, Tryz.results107, go_sem, qc0, qc1, qc2, qc3]) rfl ?_
  exact ⟨rfl, hbq⟩
end Go.Proofs.YtkcbknfhckomcaaGreatDoor
namespace Go.Proofs.YtkcbknfhckomcaaGreatDoor
open Go.RowKit
theorem only_c (G : Nat → Bool) (c : Nat) (hc : c < 256) (t : List UInt8) (w : World) :
  Calls Tryz.prog 65 #[sv G, .int .u8 (c : Int), .string ⟨t.toArray⟩] w fun e w' => e = .returned (.string ⟨(if G c then t else []).toArray⟩) ∧ Below w.heap.size w w' := by
 have HH := Lib.hid fun w => has_c G c hc w
 have b0 : Below w.heap.size w (w.alloc (.cells #[.int .u64 (wd G 0), .int .u64 (wd G 1), .int .u64 (wd G 2), .int .u64 (wd G 3)] 38)) := (Below.refl _ w).alloc (Nat.le_refl _) _
 have B0 := Lib.hid b0
 clear b0
 unfold sv at HH ⊢
 cases hg : G c with
 | false =>
  rw [hg] at HH
  go_enter Tryz.func65, Tryz.ntmps65
  go_wp2_with fail
  refine (HH.out _).mono ?_
  rintro e w1 ⟨rfl, hB⟩
  have HB := Lib.hid (B0.out.trans (hB.mono B0.out.size))
  clear hB HH B0
  go_wp2
  go_ret
  exact ⟨rfl, HB.out⟩
 | true =>
  rw [hg] at HH
  go_enter Tryz.func65, Tryz.ntmps65
  go_wp2_with fail
  refine (HH.out _).mono ?_
  rintro e w1 ⟨rfl, hB⟩
  have HB := Lib.hid (B0.out.trans (hB.mono B0.out.size))
  clear hB HH B0
  go_wp2
  go_ret
  exact ⟨rfl, HB.out⟩
theorem less_c (F G : Nat → Bool) (w : World) :
  Calls Tryz.prog 67 #[sv F, sv G] w fun e w' => e = .returned (sv fun i => F i && !G i) ∧ Below w.heap.size w w' := by
 obtain ⟨w0, hw0⟩ : ∃ w0, w0 = (((w.alloc (.cells #[.int .u64 (wd F 0), .int .u64 (wd F 1), .int .u64 (wd F 2), .int .u64 (wd F 3)] 38)).alloc (.cells #[.int .u64 (wd G 0), .int .u64 (wd G 1), .int .u64 (wd G 2), .int .u64 (wd G 3)] 38)).alloc (.cells #[.int .u64 0, .int .u64 0, .int .u64 0, .int .u64 0] 38)) := ⟨_, rfl⟩
 have a0 := ((Four.new w 38 (.int .u64 (wd F 0)) (.int .u64 (wd F 1)) (.int .u64 (wd F 2)) (.int .u64 (wd F 3))).alloc (.cells #[.int .u64 (wd G 0), .int .u64 (wd G 1), .int .u64 (wd G 2), .int .u64 (wd G 3)] 38)).alloc (.cells #[.int .u64 0, .int .u64 0, .int .u64 0, .int .u64 0] 38)
 have g0 := (Four.new (w.alloc (.cells #[.int .u64 (wd F 0), .int .u64 (wd F 1), .int .u64 (wd F 2), .int .u64 (wd F 3)] 38)) 38 (.int .u64 (wd G 0)) (.int .u64 (wd G 1)) (.int .u64 (wd G 2)) (.int .u64 (wd G 3))).alloc (.cells #[.int .u64 0, .int .u64 0, .int .u64 0, .int .u64 0] 38)
 have r0 := Four.new ((w.alloc (.cells #[.int .u64 (wd F 0), .int .u64 (wd F 1), .int .u64 (wd F 2), .int .u64 (wd F 3)] 38)).alloc (.cells #[.int .u64 (wd G 0), .int .u64 (wd G 1), .int .u64 (wd G 2), .int .u64 (wd G 3)] 38)) 38 (.int .u64 0) (.int .u64 0) (.int .u64 0) (.int .u64 0)
 rw [World.size_alloc] at g0
 rw [World.size_alloc, World.size_alloc] at r0
 have b0 : Below w.heap.size w (((w.alloc (.cells #[.int .u64 (wd F 0), .int .u64 (wd F 1), .int .u64 (wd F 2), .int .u64 (wd F 3)] 38)).alloc (.cells #[.int .u64 (wd G 0), .int .u64 (wd G 1), .int .u64 (wd G 2), .int .u64 (wd G 3)] 38)).alloc (.cells #[.int .u64 0, .int .u64 0, .int .u64 0, .int .u64 0] 38)) := (((Below.refl _ w).alloc (Nat.le_refl _) _).alloc (by simp) _).alloc (by simp; omega) _
 rw [← hw0] at a0 g0 r0 b0
 obtain ⟨N, hN⟩ : ∃ N : Nat → Bool, N = fun i => !F i := ⟨_, rfl⟩
 obtain ⟨O, hO⟩ : ∃ O : Nat → Bool, O = fun i => N i || G i := ⟨_, rfl⟩
 obtain ⟨R, hR⟩ : ∃ R : Nat → Bool, R = fun i => !O i := ⟨_, rfl⟩
 have hfin : sv (fun i => F i && !G i) = sv R := sv_congr fun i _ => by rw [hR, hO, hN]; simp
 rw [hfin]
 have hn1 := fun w => not_c F w
 have hor := fun b cap w hb => or2_c N G b cap w 38 hb
 have hn2 := fun w => not_c O w
 simp only [← hN] at hn1
 simp only [← hO] at hor
 simp only [← hR] at hn2
 have H1 := Lib.hid hn1
 have H2 := Lib.hid hor
 have H3 := Lib.hid hn2
 have HW := Lib.hid hw0
 have A0 := Lib.hid a0
 have G0 := Lib.hid g0
 have R0 := Lib.hid r0
 have B0 := Lib.hid b0
 clear hfin hN hO hR hn1 hor hn2 hw0 a0 g0 r0 b0
 unfold sv at H1 H2 H3 ⊢
 go_enter Tryz.func67, Tryz.ntmps67
 go_wp2_with fail
 rw [← HW.out]
 clear HW
 refine wp_region_held_drew (S := fun w' => FourS w' w.heap.size F ∧ FourS w' (w.heap.size + 1) G) (by kernel_rfl) ⟨A0.out.drew, G0.out.drew⟩ (fun hHeld => ?_)
 refine wpAnyH_take (i := 0) (v := ?_) rfl (by kernel_rfl) (by kernel_rfl) (by kernel_rfl) (fun _ _ _ h => h) (Or.inl ⟨by kernel_rfl, ?_⟩) (by assumption) ?_
 rotate_left
 ·(intro w hSw; (try dsimp only at hSw); have z0 := hSw.1.c0; have z1 := hSw.1.c1; have z2 := hSw.1.c2; have z3 := hSw.1.c3; go_simp); (try with_reducible rfl)
 try simp only [Act.put, laS]
 refine wpAnyH_take (i := 2) (v := ?_) rfl (by kernel_rfl) (by kernel_rfl) (by kernel_rfl) (fun _ _ _ h => h) (Or.inl ⟨by kernel_rfl, ?_⟩) (by assumption) ?_
 rotate_left
 ·(intro w hSw; (try dsimp only at hSw); have z0 := hSw.2.c0; have z1 := hSw.2.c1; have z2 := hSw.2.c2; have z3 := hSw.2.c3; go_simp); (try with_reducible rfl)
 try simp only [Act.put, laS]
 refine wpAnyH_ready (rs := [1]) (by kernel_rfl) (by simp) ?_
 refine AllReadyH.cons rfl (fun K hK => ?_) AllReadyH.nil
 go_simp
 refine (H1.out _).mono ?_
 rintro e w1 ⟨rfl, hB1⟩
 have b01 : Below w0.heap.size w0 w1 := ((Below.refl _ w0).drew).trans hB1
 refine hK.out _ _ ?_ (fun hHeld => ?_)
 ·exact ⟨A0.out.below b01 A0.out.lt, G0.out.below b01 G0.out.lt⟩
 clear hK K hB1
 try simp only [Act.put, laS]
 have b02 := b01.alloc b01.size (.cells #[.int .u64 (wd N 0), .int .u64 (wd N 1), .int .u64 (wd N 2), .int .u64 (wd N 3), .int .u64 (wd G 0), .int .u64 (wd G 1), .int .u64 (wd G 2), .int .u64 (wd G 3)] 38)
 have hnew : (w1.alloc (.cells #[.int .u64 (wd N 0), .int .u64 (wd N 1), .int .u64 (wd N 2), .int .u64 (wd N 3), .int .u64 (wd G 0), .int .u64 (wd G 1), .int .u64 (wd G 2), .int .u64 (wd G 3)] 38)).heap[w1.heap.size]? = some (.cells #[.int .u64 (wd N 0), .int .u64 (wd N 1), .int .u64 (wd N 2), .int .u64 (wd N 3), .int .u64 (wd G 0), .int .u64 (wd G 1), .int .u64 (wd G 2), .int .u64 (wd G 3)] 38 (0, 0)) := heap_new w1 _
 have h2 := H2.out w1.heap.size 2 _ hnew
 have H2' := Lib.hid h2
 clear h2 hnew H2
 refine wpAnyH_ready (rs := [3]) (by kernel_rfl) (by simp) ?_
 refine AllReadyH.cons rfl (fun K hK => ?_) AllReadyH.nil
 go_simp
 refine hK.out _ _ ?_ (fun hHeld => ?_)
 ·exact ⟨A0.out.below b02 A0.out.lt, G0.out.below b02 G0.out.lt⟩
 clear hK K
 try simp only [Act.put, laS]
 refine wpAnyH_ready (rs := [4]) (by kernel_rfl) (by simp) ?_
 refine AllReadyH.cons rfl (fun K hK => ?_) AllReadyH.nil
 go_simp
 refine H2'.out.mono ?_
 rintro e w2 ⟨rfl, hB2⟩
 have b03 := b02.trans (hB2.mono b02.size)
 refine hK.out _ _ ?_ (fun hHeld => ?_)
 ·exact ⟨A0.out.below b03 A0.out.lt, G0.out.below b03 G0.out.lt⟩
 clear hK K hB2 b02 H2'
 try simp only [Act.put, laS]
 refine wpAnyH_ready (rs := [5]) (by kernel_rfl) (by simp) ?_
 refine AllReadyH.cons rfl (fun K hK => ?_) AllReadyH.nil
 go_simp
 refine (H3.out _).mono ?_
 rintro e w3 ⟨rfl, hB3⟩
 have b04 := b03.trans (hB3.mono b03.size)
 refine hK.out _ _ ?_ (fun hHeld => ?_)
 ·exact ⟨A0.out.below b04 A0.out.lt, G0.out.below b04 G0.out.lt⟩
 clear hK K hB3 b03 b01
 try simp only [Act.put, laS]
 have r4 := R0.out.below b04 R0.out.lt
 have r4c0 := r4.c0
 have r4c1 := r4.c1
 have r4c2 := r4.c2
 have r4c3 := r4.c3
 have r4f0 := r4.fz 0
 have r4f1 := r4.fz 1
 have r4f2 := r4.fz 2
 have r4f3 := r4.fz 3
 refine wpAnyH_ready (rs := [6]) (by kernel_rfl) (by simp) ?_
 refine AllReadyH.cons rfl (fun K hK => ?_) AllReadyH.nil
 go_simp
 refine hK.out _ _ ?_ (fun hHeld => ?_)
 ·exact ⟨(A0.out.below b04 A0.out.lt).set4_other (by omega) _ _ _ _, (G0.out.below b04 G0.out.lt).set4_other (by omega) _ _ _ _⟩
 clear hK K
 try simp only [Act.put, laS]
 refine wpAnyH_done (by kernel_rfl) ?_ _
 have q := FourS.set r4 R
 have qc0 := q.c0
 have qc1 := q.c1
 have qc2 := q.c2
 have qc3 := q.c3
 have hbf := Below.set4 (B0.out.trans (b04.mono B0.out.size)) (b := w.heap.size + 1 + 1) (by omega) (.int .u64 (wd R 0)) (.int .u64 (wd R 1)) (.int .u64 (wd R 2)) (.int .u64 (wd R 3))
 go_wp2
 refine bodyPost_ret (v := sv R) (by simp [results, Tryz.results67, go_sem, qc0, qc1, qc2, qc3, sv]) rfl ⟨rfl, hbf⟩
def showOneP (c : UInt8) : List UInt8 := if c = 10 then [92, 110] else if c ∈ ([46, 91, 92, 42, 94, 36] : List UInt8) then [92, c] else [c]
theorem quoted_one : ∀ n : Nat, n < 256 → (decide (0 ≤ Lib.indexByte [46, 91, 92, 42, 94, 36] (UInt8.ofNat n)) = decide (UInt8.ofNat n ∈ ([46, 91, 92, 42, 94, 36] : List UInt8))) := by decide +kernel
theorem showone_c (c : UInt8) (w : World) :
  Calls Tryz.prog 44 #[.string ⟨#[c]⟩] w fun e w' => e = .returned (.string ⟨(showOneP c).toArray⟩) ∧ Below w.heap.size w w' := by
 have hcl := c.toNat_lt
 by_cases h10 : c = 10
 ·subst h10
  go_enter Tryz.func44, Tryz.ntmps44
  go_wp2
  go_ret
  exact ⟨rfl, Below.refl _ _⟩
 ·have hq : (c == 10) = false := by simpa using h10
  have hq2 : ¬ c = 10 := h10
  have q := quoted_one c.toNat (by omega)
  rw [show UInt8.ofNat c.toNat = c by simp] at q
  have HC := Lib.hid fun w => Tryz.strings_Contains_one ⟨#[46, 91, 92, 42, 94, 36]⟩ c w
  have e1 : (⟨#[46, 91, 92, 42, 94, 36]⟩ : ByteArray).data.toList = [46, 91, 92, 42, 94, 36] := rfl
  rw [e1, q] at HC
  clear e1 q
  by_cases hin : c ∈ ([46, 91, 92, 42, 94, 36] : List UInt8)
  ·rw [decide_eq_true hin] at HC
   have hr : showOneP c = [92, c] := by unfold showOneP; rw [if_neg h10, if_pos hin]
   rw [hr]
   clear hr hin
   go_enter Tryz.func44, Tryz.ntmps44
   go_wp2_with fail
   refine (HC.out _).mono ?_
   rintro e w1 ⟨rfl, rfl⟩
   go_wp2
   go_ret
   exact ⟨rfl, Below.refl _ _⟩
  ·rw [decide_eq_false hin] at HC
   have hr : showOneP c = [c] := by unfold showOneP; rw [if_neg h10, if_neg hin]
   rw [hr]
   clear hr hin
   go_enter Tryz.func44, Tryz.ntmps44
   go_wp2_with fail
   refine (HC.out _).mono ?_
   rintro e w1 ⟨rfl, rfl⟩
   go_wp2
   go_ret
   exact ⟨rfl, Below.refl _ _⟩
end Go.Proofs.YtkcbknfhckomcaaGreatDoor
namespace Go.Proofs.YtkcbknfhckomcaaGreatDoor
open Go.RowKit
theorem infoNd : (Tryz.prog.info? 40).map (fun i => (i.zero, i.size, i.bytes)) = some (some (.agg #[.int .i64 0, .int .u64 0, .int .u64 0, .int .u64 0, .int .u64 0, .int .i64 0, .int .i64 0, .int .i64 0, .int .i64 0, .int .i64 0]), 10, 80) := by kernel_rfl
def flat (xs : List Nd) : List Value := xs.flatMap fun x => x.cells.toList
theorem flat_at : ∀ (xs : List Nd) (j : Nat), j < xs.length * 10 → ∃ (i r : Nat) (x : Nd), xs[i]? = some x ∧ r < 10 ∧ j = i * 10 + r ∧ (flat xs)[j]? = x.cells[r]?
 | [], j, h => by simp at h
 | x :: xs, j, h => by
  have hl : x.cells.toList.length = 10 := rfl
  by_cases hj : j < 10
  ·refine ⟨0, j, x, rfl, hj, by omega, ?_⟩
   simp only [flat, List.flatMap_cons]
   rw [List.getElem?_append_left (by omega)]
   simp
  ·obtain ⟨i, r, y, h1, h2, h3, h4⟩ := flat_at xs (j - 10) (by simp only [List.length_cons] at h; omega)
   refine ⟨i + 1, r, y, h1, h2, by omega, ?_⟩
   simp only [flat, List.flatMap_cons] at h4 ⊢
   rw [List.getElem?_append_right (by omega), hl]
   exact h4
theorem flat_get (xs : List Nd) (i r : Nat) (x : Nd) (hx : xs[i]? = some x) (hr : r < 10) : (flat xs)[i * 10 + r]? = x.cells[r]? := by
 have hi : i < xs.length := (List.getElem?_eq_some_iff.1 hx).1
 obtain ⟨i', r', y, h1, h2, h3, h4⟩ := flat_at xs (i * 10 + r) (by omega)
 obtain rfl : i' = i := by omega
 obtain rfl : r' = r := by omega
 rw [hx] at h1
 cases h1
 exact h4
end Go.Proofs.YtkcbknfhckomcaaGreatDoor
