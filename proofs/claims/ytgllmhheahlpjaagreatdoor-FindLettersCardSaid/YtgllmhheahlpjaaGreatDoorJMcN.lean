/- A trial: walk at alternatives, and by way of both and repeat. -/
import Derived.Test.YtgllmhheahlpjaaGreatDoorJMcM
set_option linter.unusedVariables false
set_option linter.unusedSimpArgs false
set_option maxRecDepth 100000
set_option maxHeartbeats 40000000
namespace Go.Proofs.YtgllmhheahlpjaaGreatDoor
open Go.RowKit Go.Maps Go.WideMaps
section
variable (X : Nat) (v : TrV) (s : List UInt8) (M2 : Nat → Prop) (J : (Nat → Prop) → List Lit → World → Prop)
def BothC (pa pb : Nat) (ta tb : T) (p j : Nat) : Prop := ∀ (had : Cp) (E : Nat → Prop) (es : List Lit) (w : World), CapOk s.length had → J E es w → (∀ b, E b → b < w.heap.size) →
 Calls Tryz.prog 132 #[.pointer (some ⟨X, 0, none⟩), ndV ⟨4, 0, 0, 0, 0, (pa : Int), (pb : Int), 0, 0, 0⟩, .int .i64 p, .int .i64 j, capV had] w fun e w' => ∃ fs : List Lit, e = .returned (capV ((semT s (.two 4 ta tb)).walk p j had)) ∧ es <+: fs ∧ J E fs w' ∧ Keeps (fun b => Mt v b ∨ M2 b) w w'
def RepC (n : Nat) (t : T) (p j : Nat) : Prop := ∀ (had : Cp) (E : Nat → Prop) (es : List Lit) (w : World), CapOk s.length had → J E es w → (∀ b, E b → b < w.heap.size) →
 Calls Tryz.prog 133 #[.pointer (some ⟨X, 0, none⟩), .int .i64 n, .int .i64 p, .int .i64 j, capV had] w fun e w' => ∃ fs : List Lit, e = .returned (capV ((semT s t).walk p j had)) ∧ es <+: fs ∧ J E fs w' ∧ Keeps (fun b => Mt v b ∨ M2 b) w w'
end
section
variable {X : Nat} {v : TrV} {s : List UInt8} {xs : List Nd} {B : Nat} {c1 : Lit → Nat} {n1 : Nat} {P1 : Lit → Prop} {c2 : Lit → Nat} {n2 : Nat} {M2 : Nat → Prop} {J : (Nat → Prop) → List Lit → World → Prop}
theorem walk_via_both (jx : JX X v s xs B c1 n1 P1 c2 n2 M2 J) (fx : Fx v s xs B P1) (n p j pa pb : Nat) (ta tb : T) (hn : n < v.n) (hp : p ≤ j) (hj : j ≤ s.length) (hx : xs[n]? = some ⟨4, 0, 0, 0, 0, (pa : Int), (pb : Int), 0, 0, 0⟩) (hBo : BothC X v s M2 J pa pb ta tb p j) : WalkC X v s M2 J n (.two 4 ta tb) p j := by
 intro had E es w hcap hJ hE
 have hsl := fx.sl
 have hn2 := fx.n2
 have hB0 := fx.B1
 have iv := jx.iv hJ
 obtain ⟨lX, llb, lrb, lbn, lbr, lbl, lw⟩ := iv.lts
 have HM2 := Lib.hid (fun b hb => (jx.lt hJ b hb).1)
 have hk2 : ∀ S, Keeps S w ((w.alloc (.cells (cH had) 27)).alloc (.cells cZ 27)) := fun S => ((Keeps.refl S w).alloc _).alloc _
 have hk3 : ∀ S, Keeps S w (((w.alloc (.cells (cH had) 27)).alloc (.cells cZ 27)).alloc (.cells (nA 4 0 0 0 0 (pa : Int) (pb : Int) 0 0 0) 60)) := fun S => (hk2 S).alloc _
 have iv2 := iv.keeps (hk2 _)
 have x0 := iv2.tr.c0
 have d := iv2.nodes.cell n _ hx
 have d0 : ((w.alloc (.cells (cH had) 27)).alloc (.cells cZ 27)).cell? ⟨v.lb, v.lo + n * 10, none⟩ = some (.int .i64 4) := d 0 _ rfl
 have d1 : ((w.alloc (.cells (cH had) 27)).alloc (.cells cZ 27)).cell? ⟨v.lb, v.lo + n * 10 + 1, none⟩ = some (.int .u64 0) := d 1 _ rfl
 have d2 : ((w.alloc (.cells (cH had) 27)).alloc (.cells cZ 27)).cell? ⟨v.lb, v.lo + n * 10 + 2, none⟩ = some (.int .u64 0) := d 2 _ rfl
 have d3 : ((w.alloc (.cells (cH had) 27)).alloc (.cells cZ 27)).cell? ⟨v.lb, v.lo + n * 10 + 3, none⟩ = some (.int .u64 0) := d 3 _ rfl
 have d4 : ((w.alloc (.cells (cH had) 27)).alloc (.cells cZ 27)).cell? ⟨v.lb, v.lo + n * 10 + 4, none⟩ = some (.int .u64 0) := d 4 _ rfl
 have d5 : ((w.alloc (.cells (cH had) 27)).alloc (.cells cZ 27)).cell? ⟨v.lb, v.lo + n * 10 + 5, none⟩ = some (.int .i64 (pa : Int)) := d 5 _ rfl
 have d6 : ((w.alloc (.cells (cH had) 27)).alloc (.cells cZ 27)).cell? ⟨v.lb, v.lo + n * 10 + 6, none⟩ = some (.int .i64 (pb : Int)) := d 6 _ rfl
 have d7 : ((w.alloc (.cells (cH had) 27)).alloc (.cells cZ 27)).cell? ⟨v.lb, v.lo + n * 10 + 7, none⟩ = some (.int .i64 0) := d 7 _ rfl
 have d8 : ((w.alloc (.cells (cH had) 27)).alloc (.cells cZ 27)).cell? ⟨v.lb, v.lo + n * 10 + 8, none⟩ = some (.int .i64 0) := d 8 _ rfl
 have d9 : ((w.alloc (.cells (cH had) 27)).alloc (.cells cZ 27)).cell? ⟨v.lb, v.lo + n * 10 + 9, none⟩ = some (.int .i64 0) := d 9 _ rfl
 have hb3 := ((capBlk w had).alloc (.cells cZ 27)).alloc (.cells (nA 4 0 0 0 0 (pa : Int) (pb : Int) 0 0 0) 60)
 have hs3 : (((w.alloc (.cells (cH had) 27)).alloc (.cells cZ 27)).alloc (.cells (nA 4 0 0 0 0 (pa : Int) (pb : Int) 0 0 0) 60)).heap.size = w.heap.size + 3 := by simp
 obtain ⟨k0, k1, k2, k3, k4, k5, k6, k7, k8, k9⟩ := capBlk.ten (w := (((w.alloc (.cells (cH had) 27)).alloc (.cells cZ 27)).alloc (.cells (nA 4 0 0 0 0 (pa : Int) (pb : Int) 0 0 0) 60))) (b := w.heap.size) (had := had) hb3
 have hr3 : VRow (((w.alloc (.cells (cH had) 27)).alloc (.cells cZ 27)).alloc (.cells (nA 4 0 0 0 0 (pa : Int) (pb : Int) 0 0 0) 60)) (w.heap.size + 1) 10 27 (fun _ => .complex .f64 0 0) := by
  have := VRow.new (w.alloc (.cells (cH had) 27)) 10 27 (fun _ => .complex .f64 0 0)
  rw [World.size_alloc] at this
  exact ⟨heap_alloc _ this.heap⟩
 have hn3 : Blk (((w.alloc (.cells (cH had) 27)).alloc (.cells cZ 27)).alloc (.cells (nA 4 0 0 0 0 (pa : Int) (pb : Int) 0 0 0) 60)) (w.heap.size + 2) (nA 4 0 0 0 0 (pa : Int) (pb : Int) 0 0 0) 60 := by
  have := Blk.new ((w.alloc (.cells (cH had) 27)).alloc (.cells cZ 27)) (nA 4 0 0 0 0 (pa : Int) (pb : Int) 0 0 0) 60
  rw [World.size_alloc, World.size_alloc] at this
  exact this
 have hJ3 : J (fun b => E b ∨ (w.heap.size ≤ b ∧ b < w.heap.size + 3)) es (((w.alloc (.cells (cH had) 27)).alloc (.cells cZ 27)).alloc (.cells (nA 4 0 0 0 0 (pa : Int) (pb : Int) 0 0 0) 60)) := jx.mono (jx.keeps (jx.fresh hJ) (hk3 _)) (fun b hb => hb.imp id (fun e => e.1))
 have hE3 : ∀ b, (E b ∨ (w.heap.size ≤ b ∧ b < w.heap.size + 3)) → b < (((w.alloc (.cells (cH had) 27)).alloc (.cells cZ 27)).alloc (.cells (nA 4 0 0 0 0 (pa : Int) (pb : Int) 0 0 0) 60)).heap.size := fun b hb => by
  rw [hs3]
  rcases hb with hb | hb
  ·have := hE b hb; omega
  ·omega
 have hno : ∀ b, w.heap.size ≤ b → ¬ (Mt v b ∨ M2 b) := fun b hb e => by
  rcases e with e | e
  ·rcases e with e | e | e <;> omega
  ·have := HM2.out b e; omega
 have HX := Lib.hid jx
 have HE := Lib.hid hE
 have HCAP := Lib.hid hcap
 have HK3 := Lib.hid hk3
 have HB3 := Lib.hid (And.intro hb3 (And.intro hr3 hn3))
 have HJ3 := Lib.hid (And.intro hJ3 hE3)
 have HNO := Lib.hid hno
 have hcall := hBo had _ es _ hcap hJ3 hE3
 obtain ⟨Z, hZ⟩ : ∃ Z, Z = (semT s (.two 4 ta tb)).walk p j had := ⟨_, rfl⟩
 rw [← hZ] at hcall
 unfold capV at hcall
 (try unfold ndV at hcall)
 have HCALL := Lib.hid hcall
 have HZ := Lib.hid hZ
 clear hcall hZ hx
 clear d hk2 hk3 iv iv2 hb3 hr3 hn3 hJ hJ3 hE hE3 hcap hno jx hs3
 unfold capV
 go_enter Tryz.func109, Tryz.ntmps109
 go_wp2_with fail
 refine HCALL.out.mono ?_
 rintro e w5 ⟨gs, rfl, hpre5, hJ5, hk5⟩
 have hr5 : VRow w5 (w.heap.size + 1) 10 27 (fun _ => .complex .f64 0 0) := ⟨(hk5.block _ HB3.out.2.1.lt (HNO.out _ (by omega))).trans HB3.out.2.1.heap⟩
 have hk5b := (HK3.out _).trans hk5
 have l5 : w.heap.size + 3 ≤ w5.heap.size := by have := hk5.size; simp at this; omega
 clear hk5
 obtain ⟨r0, r1, r2, r3, r4, r5, r6, r7, r8, r9, f0, f1, f2, f3, f4, f5, f6, f7, f8, f9⟩ := hr5.rf10
 obtain ⟨s0, s1, s2, s3, s4, s5, s6, s7, s8, s9⟩ := st10 (w := w5) (b := w.heap.size + 1) hr5 Z
 have HKS := Lib.hid (kp10 (w := w5) (b := w.heap.size + 1) Z)
 have HSS := Lib.hid (And.intro s0 (And.intro s1 (And.intro s2 (And.intro s3 (And.intro s4 (And.intro s5 (And.intro s6 (And.intro s7 (And.intro s8 s9)))))))))
 clear hr5 s0 s1 s2 s3 s4 s5 s6 s7 s8 s9
 have HALL := Lib.hid (And.intro hpre5 (And.intro hJ5 hk5b))
 clear hpre5 hJ5 hk5b
 go_wp2
 obtain ⟨s0, s1, s2, s3, s4, s5, s6, s7, s8, s9⟩ := HSS.out
 refine bodyPost_ret (v := .agg (cH Z)) (by simp [results, Tryz.results109, go_sem, s0, s1, s2, s3, s4, s5, s6, s7, s8, s9]) rfl ⟨gs, ?_, HALL.out.1, HX.out.mono (HX.out.keeps HALL.out.2.1 (HKS.out.mono (fun i _ e => .inr (by subst e; omega)))) (fun b hb => .inl hb), HALL.out.2.2.trans2 HKS.out (fun i hi e => by omega)⟩
 show Ending.returned (capV Z) = _
 rw [HZ.out]
 rfl
theorem walk_via_rep (jx : JX X v s xs B c1 n1 P1 c2 n2 M2 J) (fx : Fx v s xs B P1) (n p j q : Nat) (m M : Int) (t : T) (hn : n < v.n) (hp : p ≤ j) (hj : j ≤ s.length) (hx : xs[n]? = some ⟨6, 0, 0, 0, 0, (q : Int), 0, m, M, 0⟩) (hRe : RepC X v s M2 J n (.times m M t) p j) : WalkC X v s M2 J n (.times m M t) p j := by
 intro had E es w hcap hJ hE
 have hsl := fx.sl
 have hn2 := fx.n2
 have hB0 := fx.B1
 have iv := jx.iv hJ
 obtain ⟨lX, llb, lrb, lbn, lbr, lbl, lw⟩ := iv.lts
 have HM2 := Lib.hid (fun b hb => (jx.lt hJ b hb).1)
 have hk2 : ∀ S, Keeps S w ((w.alloc (.cells (cH had) 27)).alloc (.cells cZ 27)) := fun S => ((Keeps.refl S w).alloc _).alloc _
 have hk3 : ∀ S, Keeps S w (((w.alloc (.cells (cH had) 27)).alloc (.cells cZ 27)).alloc (.cells (nA 6 0 0 0 0 (q : Int) 0 m M 0) 60)) := fun S => (hk2 S).alloc _
 have iv2 := iv.keeps (hk2 _)
 have x0 := iv2.tr.c0
 have d := iv2.nodes.cell n _ hx
 have d0 : ((w.alloc (.cells (cH had) 27)).alloc (.cells cZ 27)).cell? ⟨v.lb, v.lo + n * 10, none⟩ = some (.int .i64 6) := d 0 _ rfl
 have d1 : ((w.alloc (.cells (cH had) 27)).alloc (.cells cZ 27)).cell? ⟨v.lb, v.lo + n * 10 + 1, none⟩ = some (.int .u64 0) := d 1 _ rfl
 have d2 : ((w.alloc (.cells (cH had) 27)).alloc (.cells cZ 27)).cell? ⟨v.lb, v.lo + n * 10 + 2, none⟩ = some (.int .u64 0) := d 2 _ rfl
 have d3 : ((w.alloc (.cells (cH had) 27)).alloc (.cells cZ 27)).cell? ⟨v.lb, v.lo + n * 10 + 3, none⟩ = some (.int .u64 0) := d 3 _ rfl
 have d4 : ((w.alloc (.cells (cH had) 27)).alloc (.cells cZ 27)).cell? ⟨v.lb, v.lo + n * 10 + 4, none⟩ = some (.int .u64 0) := d 4 _ rfl
 have d5 : ((w.alloc (.cells (cH had) 27)).alloc (.cells cZ 27)).cell? ⟨v.lb, v.lo + n * 10 + 5, none⟩ = some (.int .i64 (q : Int)) := d 5 _ rfl
 have d6 : ((w.alloc (.cells (cH had) 27)).alloc (.cells cZ 27)).cell? ⟨v.lb, v.lo + n * 10 + 6, none⟩ = some (.int .i64 0) := d 6 _ rfl
 have d7 : ((w.alloc (.cells (cH had) 27)).alloc (.cells cZ 27)).cell? ⟨v.lb, v.lo + n * 10 + 7, none⟩ = some (.int .i64 m) := d 7 _ rfl
 have d8 : ((w.alloc (.cells (cH had) 27)).alloc (.cells cZ 27)).cell? ⟨v.lb, v.lo + n * 10 + 8, none⟩ = some (.int .i64 M) := d 8 _ rfl
 have d9 : ((w.alloc (.cells (cH had) 27)).alloc (.cells cZ 27)).cell? ⟨v.lb, v.lo + n * 10 + 9, none⟩ = some (.int .i64 0) := d 9 _ rfl
 have hb3 := ((capBlk w had).alloc (.cells cZ 27)).alloc (.cells (nA 6 0 0 0 0 (q : Int) 0 m M 0) 60)
 have hs3 : (((w.alloc (.cells (cH had) 27)).alloc (.cells cZ 27)).alloc (.cells (nA 6 0 0 0 0 (q : Int) 0 m M 0) 60)).heap.size = w.heap.size + 3 := by simp
 obtain ⟨k0, k1, k2, k3, k4, k5, k6, k7, k8, k9⟩ := capBlk.ten (w := (((w.alloc (.cells (cH had) 27)).alloc (.cells cZ 27)).alloc (.cells (nA 6 0 0 0 0 (q : Int) 0 m M 0) 60))) (b := w.heap.size) (had := had) hb3
 have hr3 : VRow (((w.alloc (.cells (cH had) 27)).alloc (.cells cZ 27)).alloc (.cells (nA 6 0 0 0 0 (q : Int) 0 m M 0) 60)) (w.heap.size + 1) 10 27 (fun _ => .complex .f64 0 0) := by
  have := VRow.new (w.alloc (.cells (cH had) 27)) 10 27 (fun _ => .complex .f64 0 0)
  rw [World.size_alloc] at this
  exact ⟨heap_alloc _ this.heap⟩
 have hn3 : Blk (((w.alloc (.cells (cH had) 27)).alloc (.cells cZ 27)).alloc (.cells (nA 6 0 0 0 0 (q : Int) 0 m M 0) 60)) (w.heap.size + 2) (nA 6 0 0 0 0 (q : Int) 0 m M 0) 60 := by
  have := Blk.new ((w.alloc (.cells (cH had) 27)).alloc (.cells cZ 27)) (nA 6 0 0 0 0 (q : Int) 0 m M 0) 60
  rw [World.size_alloc, World.size_alloc] at this
  exact this
 have hJ3 : J (fun b => E b ∨ (w.heap.size ≤ b ∧ b < w.heap.size + 3)) es (((w.alloc (.cells (cH had) 27)).alloc (.cells cZ 27)).alloc (.cells (nA 6 0 0 0 0 (q : Int) 0 m M 0) 60)) := jx.mono (jx.keeps (jx.fresh hJ) (hk3 _)) (fun b hb => hb.imp id (fun e => e.1))
 have hE3 : ∀ b, (E b ∨ (w.heap.size ≤ b ∧ b < w.heap.size + 3)) → b < (((w.alloc (.cells (cH had) 27)).alloc (.cells cZ 27)).alloc (.cells (nA 6 0 0 0 0 (q : Int) 0 m M 0) 60)).heap.size := fun b hb => by
  rw [hs3]
  rcases hb with hb | hb
  ·have := hE b hb; omega
  ·omega
 have hno : ∀ b, w.heap.size ≤ b → ¬ (Mt v b ∨ M2 b) := fun b hb e => by
  rcases e with e | e
  ·rcases e with e | e | e <;> omega
  ·have := HM2.out b e; omega
 have HX := Lib.hid jx
 have HE := Lib.hid hE
 have HCAP := Lib.hid hcap
 have HK3 := Lib.hid hk3
 have HB3 := Lib.hid (And.intro hb3 (And.intro hr3 hn3))
 have HJ3 := Lib.hid (And.intro hJ3 hE3)
 have HNO := Lib.hid hno
 have hcall := hRe had _ es _ hcap hJ3 hE3
 obtain ⟨Z, hZ⟩ : ∃ Z, Z = (semT s (.times m M t)).walk p j had := ⟨_, rfl⟩
 rw [← hZ] at hcall
 unfold capV at hcall
 (try unfold ndV at hcall)
 have HCALL := Lib.hid hcall
 have HZ := Lib.hid hZ
 clear hcall hZ hx
 clear d hk2 hk3 iv iv2 hb3 hr3 hn3 hJ hJ3 hE hE3 hcap hno jx hs3
 unfold capV
 go_enter Tryz.func109, Tryz.ntmps109
 go_wp2_with fail
 refine HCALL.out.mono ?_
 rintro e w5 ⟨gs, rfl, hpre5, hJ5, hk5⟩
 have hr5 : VRow w5 (w.heap.size + 1) 10 27 (fun _ => .complex .f64 0 0) := ⟨(hk5.block _ HB3.out.2.1.lt (HNO.out _ (by omega))).trans HB3.out.2.1.heap⟩
 have hk5b := (HK3.out _).trans hk5
 have l5 : w.heap.size + 3 ≤ w5.heap.size := by have := hk5.size; simp at this; omega
 clear hk5
 obtain ⟨r0, r1, r2, r3, r4, r5, r6, r7, r8, r9, f0, f1, f2, f3, f4, f5, f6, f7, f8, f9⟩ := hr5.rf10
 obtain ⟨s0, s1, s2, s3, s4, s5, s6, s7, s8, s9⟩ := st10 (w := w5) (b := w.heap.size + 1) hr5 Z
 have HKS := Lib.hid (kp10 (w := w5) (b := w.heap.size + 1) Z)
 have HSS := Lib.hid (And.intro s0 (And.intro s1 (And.intro s2 (And.intro s3 (And.intro s4 (And.intro s5 (And.intro s6 (And.intro s7 (And.intro s8 s9)))))))))
 clear hr5 s0 s1 s2 s3 s4 s5 s6 s7 s8 s9
 have HALL := Lib.hid (And.intro hpre5 (And.intro hJ5 hk5b))
 clear hpre5 hJ5 hk5b
 go_wp2
 obtain ⟨s0, s1, s2, s3, s4, s5, s6, s7, s8, s9⟩ := HSS.out
 refine bodyPost_ret (v := .agg (cH Z)) (by simp [results, Tryz.results109, go_sem, s0, s1, s2, s3, s4, s5, s6, s7, s8, s9]) rfl ⟨gs, ?_, HALL.out.1, HX.out.mono (HX.out.keeps HALL.out.2.1 (HKS.out.mono (fun i _ e => .inr (by subst e; omega)))) (fun b hb => .inl hb), HALL.out.2.2.trans2 HKS.out (fun i hi e => by omega)⟩
 show Ending.returned (capV Z) = _
 rw [HZ.out]
 rfl
theorem walk_alt (jx : JX X v s xs B c1 n1 P1 c2 n2 M2 J) (fx : Fx v s xs B P1) (n p j pa pb : Nat) (ta tb : T) (hn : n < v.n) (hp : p ≤ j) (hj : j ≤ s.length) (ht : Sub (fun i => xs[i]?) (.two 5 ta tb) n) (hx : xs[n]? = some ⟨5, 0, 0, 0, 0, (pa : Int), (pb : Int), 0, 0, 0⟩) (la : pa < v.n) (lb : pb < v.n) (hsa : Sub (fun i => xs[i]?) ta pa) (hsb : Sub (fun i => xs[i]?) tb pb) (ha0 : CntOk ta 0)
  (hA : EndsC X v s B M2 J pa ta p) (hLa : LeaveC X v s M2 J pa ta p j) (hLb : LeaveC X v s M2 J pb tb p j) : WalkC X v s M2 J n (.two 5 ta tb) p j := by
 intro had E es w hcap hJ hE
 have hsl := fx.sl
 have hn2 := fx.n2
 have hB0 := fx.B1
 have iv := jx.iv hJ
 obtain ⟨lX, llb, lrb, lbn, lbr, lbl, lw⟩ := iv.lts
 have HM2 := Lib.hid (fun b hb => (jx.lt hJ b hb).1)
 have hk2 : ∀ S, Keeps S w ((w.alloc (.cells (cH had) 27)).alloc (.cells cZ 27)) := fun S => ((Keeps.refl S w).alloc _).alloc _
 have hk3 : ∀ S, Keeps S w (((w.alloc (.cells (cH had) 27)).alloc (.cells cZ 27)).alloc (.cells (nA 5 0 0 0 0 (pa : Int) (pb : Int) 0 0 0) 60)) := fun S => (hk2 S).alloc _
 have iv2 := iv.keeps (hk2 _)
 have x0 := iv2.tr.c0
 have d := iv2.nodes.cell n _ hx
 have d0 : ((w.alloc (.cells (cH had) 27)).alloc (.cells cZ 27)).cell? ⟨v.lb, v.lo + n * 10, none⟩ = some (.int .i64 5) := d 0 _ rfl
 have d1 : ((w.alloc (.cells (cH had) 27)).alloc (.cells cZ 27)).cell? ⟨v.lb, v.lo + n * 10 + 1, none⟩ = some (.int .u64 0) := d 1 _ rfl
 have d2 : ((w.alloc (.cells (cH had) 27)).alloc (.cells cZ 27)).cell? ⟨v.lb, v.lo + n * 10 + 2, none⟩ = some (.int .u64 0) := d 2 _ rfl
 have d3 : ((w.alloc (.cells (cH had) 27)).alloc (.cells cZ 27)).cell? ⟨v.lb, v.lo + n * 10 + 3, none⟩ = some (.int .u64 0) := d 3 _ rfl
 have d4 : ((w.alloc (.cells (cH had) 27)).alloc (.cells cZ 27)).cell? ⟨v.lb, v.lo + n * 10 + 4, none⟩ = some (.int .u64 0) := d 4 _ rfl
 have d5 : ((w.alloc (.cells (cH had) 27)).alloc (.cells cZ 27)).cell? ⟨v.lb, v.lo + n * 10 + 5, none⟩ = some (.int .i64 (pa : Int)) := d 5 _ rfl
 have d6 : ((w.alloc (.cells (cH had) 27)).alloc (.cells cZ 27)).cell? ⟨v.lb, v.lo + n * 10 + 6, none⟩ = some (.int .i64 (pb : Int)) := d 6 _ rfl
 have d7 : ((w.alloc (.cells (cH had) 27)).alloc (.cells cZ 27)).cell? ⟨v.lb, v.lo + n * 10 + 7, none⟩ = some (.int .i64 0) := d 7 _ rfl
 have d8 : ((w.alloc (.cells (cH had) 27)).alloc (.cells cZ 27)).cell? ⟨v.lb, v.lo + n * 10 + 8, none⟩ = some (.int .i64 0) := d 8 _ rfl
 have d9 : ((w.alloc (.cells (cH had) 27)).alloc (.cells cZ 27)).cell? ⟨v.lb, v.lo + n * 10 + 9, none⟩ = some (.int .i64 0) := d 9 _ rfl
 have hb3 := ((capBlk w had).alloc (.cells cZ 27)).alloc (.cells (nA 5 0 0 0 0 (pa : Int) (pb : Int) 0 0 0) 60)
 have hs3 : (((w.alloc (.cells (cH had) 27)).alloc (.cells cZ 27)).alloc (.cells (nA 5 0 0 0 0 (pa : Int) (pb : Int) 0 0 0) 60)).heap.size = w.heap.size + 3 := by simp
 obtain ⟨k0, k1, k2, k3, k4, k5, k6, k7, k8, k9⟩ := capBlk.ten (w := (((w.alloc (.cells (cH had) 27)).alloc (.cells cZ 27)).alloc (.cells (nA 5 0 0 0 0 (pa : Int) (pb : Int) 0 0 0) 60))) (b := w.heap.size) (had := had) hb3
 have hr3 : VRow (((w.alloc (.cells (cH had) 27)).alloc (.cells cZ 27)).alloc (.cells (nA 5 0 0 0 0 (pa : Int) (pb : Int) 0 0 0) 60)) (w.heap.size + 1) 10 27 (fun _ => .complex .f64 0 0) := by
  have := VRow.new (w.alloc (.cells (cH had) 27)) 10 27 (fun _ => .complex .f64 0 0)
  rw [World.size_alloc] at this
  exact ⟨heap_alloc _ this.heap⟩
 have hn3 : Blk (((w.alloc (.cells (cH had) 27)).alloc (.cells cZ 27)).alloc (.cells (nA 5 0 0 0 0 (pa : Int) (pb : Int) 0 0 0) 60)) (w.heap.size + 2) (nA 5 0 0 0 0 (pa : Int) (pb : Int) 0 0 0) 60 := by
  have := Blk.new ((w.alloc (.cells (cH had) 27)).alloc (.cells cZ 27)) (nA 5 0 0 0 0 (pa : Int) (pb : Int) 0 0 0) 60
  rw [World.size_alloc, World.size_alloc] at this
  exact this
 have hJ3 : J (fun b => E b ∨ (w.heap.size ≤ b ∧ b < w.heap.size + 3)) es (((w.alloc (.cells (cH had) 27)).alloc (.cells cZ 27)).alloc (.cells (nA 5 0 0 0 0 (pa : Int) (pb : Int) 0 0 0) 60)) := jx.mono (jx.keeps (jx.fresh hJ) (hk3 _)) (fun b hb => hb.imp id (fun e => e.1))
 have hE3 : ∀ b, (E b ∨ (w.heap.size ≤ b ∧ b < w.heap.size + 3)) → b < (((w.alloc (.cells (cH had) 27)).alloc (.cells cZ 27)).alloc (.cells (nA 5 0 0 0 0 (pa : Int) (pb : Int) 0 0 0) 60)).heap.size := fun b hb => by
  rw [hs3]
  rcases hb with hb | hb
  ·have := hE b hb; omega
  ·omega
 have hno : ∀ b, w.heap.size ≤ b → ¬ (Mt v b ∨ M2 b) := fun b hb e => by
  rcases e with e | e
  ·rcases e with e | e | e <;> omega
  ·have := HM2.out b e; omega
 have HX := Lib.hid jx
 have HE := Lib.hid hE
 have HCAP := Lib.hid hcap
 have HK3 := Lib.hid hk3
 have HB3 := Lib.hid (And.intro hb3 (And.intro hr3 hn3))
 have HJ3 := Lib.hid (And.intro hJ3 hE3)
 have HNO := Lib.hid hno
 have hcall := hA 0 had _ es _ (by omega) ha0 hcap hJ3 hE3
 unfold capV PV at hcall
 have HCALL := Lib.hid hcall
 have HLA := Lib.hid hLa
 have HLB := Lib.hid hLb
 clear hcall hx hA hLa hLb ht hsa hsb ha0
 clear d hk2 hk3 iv iv2 hb3 hr3 hn3 hJ hJ3 hE hE3 hcap hno jx hs3
 unfold capV
 go_enter Tryz.func109, Tryz.ntmps109
 go_wp2_with fail
 refine HCALL.out.mono ?_
 rintro e w4 ⟨b, fs, rfl, hrow4, hbE, hb00, hbM2, hbM, hpre4, hJ4, hk4⟩
 have hb4 := HB3.out.1.keeps hk4 (HNO.out _ (by omega))
 have hn4 := HB3.out.2.2.keeps hk4 (HNO.out _ (by omega))
 have hr4 : VRow w4 (w.heap.size + 1) 10 27 (fun _ => .complex .f64 0 0) := ⟨(hk4.block _ HB3.out.2.1.lt (HNO.out _ (by omega))).trans HB3.out.2.1.heap⟩
 have m5 : w4.cell? ⟨w.heap.size + 2, 5, none⟩ = some (.int .i64 (pa : Int)) := hn4.cell 5
 have m6 : w4.cell? ⟨w.heap.size + 2, 6, none⟩ = some (.int .i64 (pb : Int)) := hn4.cell 6
 clear k0 k1 k2 k3 k4 k5 k6 k7 k8 k9 HCALL
 obtain ⟨k0, k1, k2, k3, k4, k5, k6, k7, k8, k9⟩ := capBlk.ten (w := w4) (b := w.heap.size) (had := had) hb4
 have hE4 : ∀ b, (E b ∨ (w.heap.size ≤ b ∧ b < w.heap.size + 3)) → b < w4.heap.size := fun b hb => Nat.lt_of_lt_of_le (HJ3.out.2 b hb) hk4.size
 have l4 : w.heap.size + 3 ≤ w4.heap.size := by have := hk4.size; simp at this; omega
 have hk4b := (HK3.out _).trans hk4
 have HHAS := Lib.hid (has_m b (s.length / 64 + 1) (s.length / 64 + 1) j _ (by omega) (by omega) w4 hrow4)
 have H4 := Lib.hid (And.intro hb4 (And.intro hr4 (And.intro hE4 (And.intro hk4b (And.intro hpre4 hJ4)))))
 clear hb4 hn4 hr4 hE4 hk4b hk4 hpre4 hJ4 hrow4
 go_wp2_with fail
 refine HHAS.out.mono ?_
 rintro e w5 ⟨rfl, rfl⟩
 clear HHAS
 cases hq : (semT s ta).ends p 0 had j with
 | true =>
  obtain ⟨Z, hZ⟩ : ∃ Z, Z = (semT s ta).leave p j had := ⟨_, rfl⟩
  have hcall := HLA.out had _ fs w5 HCAP.out H4.out.2.2.2.2.2 H4.out.2.2.1
  rw [← hZ] at hcall
  unfold capV at hcall
  have HCALL := Lib.hid hcall
  have hw : (semT s (.two 5 ta tb)).walk p j had = Z := by
   show (if (semT s ta).ends p 0 had j = true then (semT s ta).leave p j had else (semT s tb).leave p j had) = Z
   rw [hq, hZ]; rfl
  have HZ := Lib.hid hw
  clear hcall hZ hw hq
  go_wp2_with fail
  refine HCALL.out.mono ?_
  rintro e w6 ⟨gs, rfl, hpre6, hJ6, hk6⟩
  have hr6 : VRow w6 (w.heap.size + 1) 10 27 (fun _ => .complex .f64 0 0) := ⟨(hk6.block _ H4.out.2.1.lt (HNO.out _ (by omega))).trans H4.out.2.1.heap⟩
  have hk6b := H4.out.2.2.2.1.trans hk6
  have hpre6b := H4.out.2.2.2.2.1.trans hpre6
  have l6 : w.heap.size + 3 ≤ w6.heap.size := by have := hk6.size; omega
  clear hk6 hpre6 m5 m6 k0 k1 k2 k3 k4 k5 k6 k7 k8 k9
  obtain ⟨r0, r1, r2, r3, r4, r5, r6, r7, r8, r9, f0, f1, f2, f3, f4, f5, f6, f7, f8, f9⟩ := hr6.rf10
  obtain ⟨s0, s1, s2, s3, s4, s5, s6, s7, s8, s9⟩ := st10 (w := w6) (b := w.heap.size + 1) hr6 Z
  have HKS := Lib.hid (kp10 (w := w6) (b := w.heap.size + 1) Z)
  have HSS := Lib.hid (And.intro s0 (And.intro s1 (And.intro s2 (And.intro s3 (And.intro s4 (And.intro s5 (And.intro s6 (And.intro s7 (And.intro s8 s9)))))))))
  clear hr6 s0 s1 s2 s3 s4 s5 s6 s7 s8 s9
  have HALL := Lib.hid (And.intro hpre6b (And.intro hJ6 hk6b))
  clear hpre6b hJ6 hk6b
  go_wp2
  obtain ⟨s0, s1, s2, s3, s4, s5, s6, s7, s8, s9⟩ := HSS.out
  refine bodyPost_ret (v := .agg (cH Z)) (by simp [results, Tryz.results109, go_sem, s0, s1, s2, s3, s4, s5, s6, s7, s8, s9]) rfl ⟨gs, ?_, HALL.out.1, HX.out.mono (HX.out.keeps HALL.out.2.1 (HKS.out.mono (fun i _ e => .inr (by subst e; omega)))) (fun b hb => .inl hb), HALL.out.2.2.trans2 HKS.out (fun i hi e => by omega)⟩
  show Ending.returned (capV Z) = _
  rw [HZ.out]
  rfl
 | false =>
  obtain ⟨Z, hZ⟩ : ∃ Z, Z = (semT s tb).leave p j had := ⟨_, rfl⟩
  have hcall := HLB.out had _ fs w5 HCAP.out H4.out.2.2.2.2.2 H4.out.2.2.1
  rw [← hZ] at hcall
  unfold capV at hcall
  have HCALL := Lib.hid hcall
  have hw : (semT s (.two 5 ta tb)).walk p j had = Z := by
   show (if (semT s ta).ends p 0 had j = true then (semT s ta).leave p j had else (semT s tb).leave p j had) = Z
   rw [hq, hZ]; rfl
  have HZ := Lib.hid hw
  clear hcall hZ hw hq
  go_wp2_with fail
  refine HCALL.out.mono ?_
  rintro e w6 ⟨gs, rfl, hpre6, hJ6, hk6⟩
  have hr6 : VRow w6 (w.heap.size + 1) 10 27 (fun _ => .complex .f64 0 0) := ⟨(hk6.block _ H4.out.2.1.lt (HNO.out _ (by omega))).trans H4.out.2.1.heap⟩
  have hk6b := H4.out.2.2.2.1.trans hk6
  have hpre6b := H4.out.2.2.2.2.1.trans hpre6
  have l6 : w.heap.size + 3 ≤ w6.heap.size := by have := hk6.size; omega
  clear hk6 hpre6 m5 m6 k0 k1 k2 k3 k4 k5 k6 k7 k8 k9
  obtain ⟨r0, r1, r2, r3, r4, r5, r6, r7, r8, r9, f0, f1, f2, f3, f4, f5, f6, f7, f8, f9⟩ := hr6.rf10
  obtain ⟨s0, s1, s2, s3, s4, s5, s6, s7, s8, s9⟩ := st10 (w := w6) (b := w.heap.size + 1) hr6 Z
  have HKS := Lib.hid (kp10 (w := w6) (b := w.heap.size + 1) Z)
  have HSS := Lib.hid (And.intro s0 (And.intro s1 (And.intro s2 (And.intro s3 (And.intro s4 (And.intro s5 (And.intro s6 (And.intro s7 (And.intro s8 s9)))))))))
  clear hr6 s0 s1 s2 s3 s4 s5 s6 s7 s8 s9
  have HALL := Lib.hid (And.intro hpre6b (And.intro hJ6 hk6b))
  clear hpre6b hJ6 hk6b
  go_wp2
  obtain ⟨s0, s1, s2, s3, s4, s5, s6, s7, s8, s9⟩ := HSS.out
  refine bodyPost_ret (v := .agg (cH Z)) (by simp [results, Tryz.results109, go_sem, s0, s1, s2, s3, s4, s5, s6, s7, s8, s9]) rfl ⟨gs, ?_, HALL.out.1, HX.out.mono (HX.out.keeps HALL.out.2.1 (HKS.out.mono (fun i _ e => .inr (by subst e; omega)))) (fun b hb => .inl hb), HALL.out.2.2.trans2 HKS.out (fun i hi e => by omega)⟩
  show Ending.returned (capV Z) = _
  rw [HZ.out]
  rfl
end
end Go.Proofs.YtgllmhheahlpjaaGreatDoor
