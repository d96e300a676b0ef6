/- A trial: walk at a group, at a Cat, at Times. -/
import Derived.Test.YtjgegohidhdbpaaGreatDoorJMcT
import Derived.Test.YtjgegohidhdbpaaGreatDoorJMbJ
import Derived.Test.YtjgegohidhdbpaaGreatDoorJMcM
import Derived.Test.YtjgegohidhdbpaaGreatDoorJShelf
open Go.Proofs.Tryz
set_option linter.unusedVariables false
set_option linter.unusedSimpArgs false
set_option maxRecDepth 100000
set_option maxHeartbeats 40000000
namespace Go.Proofs.YtjgegohidhdbpaaGreatDoor
open Go.RowKit Go.Maps Go.WideMaps
section
variable {X : Nat} {v : kU} {s : List UInt8} {xs : List Nd} {B : Nat} {c1 : Lit → Nat} {n1 : Nat} {P1 : Lit → Prop} {c2 : Lit → Nat} {n2 : Nat} {M2 : Nat → Prop} {J : (Nat → Prop) → List Lit → World → Prop}
theorem qjA (jx : JX X v s xs B c1 n1 P1 c2 n2 M2 J) (fx : Fx v s xs B P1) (n p j pa g : Nat) (u : T) (hn : n < v.n) (hp : p ≤ j) (hj : j ≤ s.length) (hg : g = 1 ∨ g = 2 ∨ g = 3 ∨ g = 4 ∨ g = 5 ∨ g = 6 ∨ g = 7 ∨ g = 8 ∨ g = 9) (hx : xs[n]? = some ⟨7, 0, 0, 0, 0, (pa : Int), 0, 0, 0, (g : Int)⟩) (la : pa < v.n) (hL : kX X v s M2 J pa u p j) : WalkC X v s M2 J n (.group (g : Int) u) p j := by
 intro had E es w qB hJ hE
 have jp := fx.sl
 have XJ := fx.n2
 have XF := fx.B1
 have iv := jx.iv hJ
 obtain ⟨lX, llb, lrb, lbn, lbr, lbl, lw⟩ := iv.lts
 have ZD := ξ (fun b hb => (jx.lt hJ b hb).1)
 have qH : ∀ S, qb S w ((w.alloc (.cells (cH had) 27)).alloc (.cells cZ 27)) := fun S => ((qb.refl S w).alloc _).alloc _
 have zl : ∀ S, qb S w (((w.alloc (.cells (cH had) 27)).alloc (.cells cZ 27)).alloc (.cells (nA 7 0 0 0 0 (pa : Int) 0 0 0 (g : Int)) 57)) := fun S => (qH S).alloc _
 have iv2 := iv.keeps (qH _)
 have x0 := iv2.tr.c0
 have d := iv2.nodes.cell n _ hx
 have d_ := zB d
 have vO := ((qc w had).alloc (.cells cZ 27)).alloc (.cells (nA 7 0 0 0 0 (pa : Int) 0 0 0 (g : Int)) 57)
 have JE : (((w.alloc (.cells (cH had) 27)).alloc (.cells cZ 27)).alloc (.cells (nA 7 0 0 0 0 (pa : Int) 0 0 0 (g : Int)) 57)).heap.size = w.heap.size + 3 := by simp
 obtain ⟨k0, k1, k2, k3, k4, k5, k6, k7, k8, k9⟩ := qc.ten (w := (((w.alloc (.cells (cH had) 27)).alloc (.cells cZ 27)).alloc (.cells (nA 7 0 0 0 0 (pa : Int) 0 0 0 (g : Int)) 57))) (b := w.heap.size) (had := had) vO
 have kH : qm (((w.alloc (.cells (cH had) 27)).alloc (.cells cZ 27)).alloc (.cells (nA 7 0 0 0 0 (pa : Int) 0 0 0 (g : Int)) 57)) (w.heap.size + 1) 10 27 (fun _ => .complex .f64 0 0) := by
  have := qm.new (w.alloc (.cells (cH had) 27)) 10 27 (fun _ => .complex .f64 0 0)
  rw [World.size_alloc] at this
  exact ⟨heap_alloc _ this.heap⟩
 have Yk : zG (((w.alloc (.cells (cH had) 27)).alloc (.cells cZ 27)).alloc (.cells (nA 7 0 0 0 0 (pa : Int) 0 0 0 (g : Int)) 57)) (w.heap.size + 2) (nA 7 0 0 0 0 (pa : Int) 0 0 0 (g : Int)) 57 := by
  have := zG.new ((w.alloc (.cells (cH had) 27)).alloc (.cells cZ 27)) (nA 7 0 0 0 0 (pa : Int) 0 0 0 (g : Int)) 57
  rw [World.size_alloc, World.size_alloc] at this
  exact this
 have vw : J (fun b => E b ∨ (w.heap.size ≤ b ∧ b < w.heap.size + 3)) es (((w.alloc (.cells (cH had) 27)).alloc (.cells cZ 27)).alloc (.cells (nA 7 0 0 0 0 (pa : Int) 0 0 0 (g : Int)) 57)) := jx.mono (jx.keeps (jx.fresh hJ) (zl _)) (fun b hb => hb.imp id (fun e => e.1))
 have VB : ∀ b, (E b ∨ (w.heap.size ≤ b ∧ b < w.heap.size + 3)) → b < (((w.alloc (.cells (cH had) 27)).alloc (.cells cZ 27)).alloc (.cells (nA 7 0 0 0 0 (pa : Int) 0 0 0 (g : Int)) 57)).heap.size := fun b hb => by
  rw [JE]
  rcases hb with hb | hb
  ·have := hE b hb; omega
  ·omega
 have kz : ∀ b, w.heap.size ≤ b → ¬ (Mt v b ∨ M2 b) := fun b hb e => by
  rcases e with e | e
  ·rcases e with e | e | e <;> omega
  ·have := ZD.out b e; omega
 have HX := ξ jx
 have HE := ξ hE
 have Qe := ξ qB
 have Zp := ξ zl
 have Zt := ξ (ζ vO (ζ kH Yk))
 have kM := ξ (ζ vw VB)
 have kD := ξ kz
 have qh := hL had _ es _ qB vw VB
 obtain ⟨Z, hZ⟩ : ∃ Z, Z = (qd s u).leave p j had := ⟨_, rfl⟩
 rw [← hZ] at qh
 obtain ⟨Z2, hZ2⟩ : ∃ Z2 : Cp, Z2 = (fun i => if i = g then some (p, j) else Z i) := ⟨_, rfl⟩
 have hw : (qd s (.group (g : Int) u)).walk p j had = Z2 := by rw [hZ2, hZ]; rfl
 have hg9 : g < 10 := by omega
 have hgI : (g : Int) < 10 := by omega
 have HG := ξ hg
 clear hg
 unfold qk at qh
 have qp := ξ qh
 have HZ := ξ (ζ hw hZ2)
 clear qh hx hL hZ hw hZ2
 clear d qH zl iv iv2 vO kH Yk hJ vw hE VB qB kz jx JE
 unfold qk
 go_enter func101, ntmps101
 go_wp2_with fail
 refine qp.out.mono ?_
 rintro e w5 ⟨gs, rfl, vi, Kg, vH⟩
 clear qp k0 k1 k2 k3 k4 k5 k6 k7 k8 k9
 have Y5 := Zt.out.1.keeps vH (kD.out _ (by omega))
 have hn5 := Zt.out.2.2.keeps vH (kD.out _ (by omega))
 have Vg : qm w5 (w.heap.size + 1) 10 27 (fun _ => .complex .f64 0 0) := ⟨(vH.block _ Zt.out.2.1.lt (kD.out _ (by omega))).trans Zt.out.2.1.heap⟩
 have l5 : w.heap.size + 3 ≤ w5.heap.size := by have := vH.size; simp at this; omega
 have hv5 : qm w5 w.heap.size 10 27 (fun i => qj (had i)) := ⟨Y5.heap⟩
 have hbS := yC hv5 Z
 have r_ := hv5.rf10
 have zI := ξ (kn (w := w5) (b := w.heap.size) Z)
 have za := ξ (qV (w := w5) (b := w.heap.size) hv5 Z)
 clear hv5
 have hnS := hn5.keeps zI.out (by omega)
 have hrS : qm ((((((((((w5.setCell ⟨w.heap.size, 0, none⟩ (qj (Z 0))).setCell ⟨w.heap.size, 1, none⟩ (qj (Z 1))).setCell ⟨w.heap.size, 2, none⟩ (qj (Z 2))).setCell ⟨w.heap.size, 3, none⟩ (qj (Z 3))).setCell ⟨w.heap.size, 4, none⟩ (qj (Z 4))).setCell ⟨w.heap.size, 5, none⟩ (qj (Z 5))).setCell ⟨w.heap.size, 6, none⟩ (qj (Z 6))).setCell ⟨w.heap.size, 7, none⟩ (qj (Z 7))).setCell ⟨w.heap.size, 8, none⟩ (qj (Z 8))).setCell ⟨w.heap.size, 9, none⟩ (qj (Z 9))) (w.heap.size + 1) 10 27 (fun _ => .complex .f64 0 0) := ⟨(zI.out.block _ Vg.lt (by omega)).trans Vg.heap⟩
 have H5 := ξ (ζ vi (ζ Kg (ζ ((Zp.out _).trans vH) (ζ hbS (ζ hrS hnS)))))
 have HK0 := ξ (zI.out)
 clear vi Kg vH Y5 hn5 Vg hbS hrS za zI
 have HOF := ξ (fun W => qd2 (p : Int) (j : Int) W (by omega) (by omega) (by omega))
 go_wp2_with fail
 generalize hwc : ((((((((((w5.setCell ⟨w.heap.size, 0, none⟩ (qj (Z 0))).setCell ⟨w.heap.size, 1, none⟩ (qj (Z 1))).setCell ⟨w.heap.size, 2, none⟩ (qj (Z 2))).setCell ⟨w.heap.size, 3, none⟩ (qj (Z 3))).setCell ⟨w.heap.size, 4, none⟩ (qj (Z 4))).setCell ⟨w.heap.size, 5, none⟩ (qj (Z 5))).setCell ⟨w.heap.size, 6, none⟩ (qj (Z 6))).setCell ⟨w.heap.size, 7, none⟩ (qj (Z 7))).setCell ⟨w.heap.size, 8, none⟩ (qj (Z 8))).setCell ⟨w.heap.size, 9, none⟩ (qj (Z 9))) = wc at H5 HK0 hnS ⊢
 clear hwc
 refine wp_region_noPanic ?_
 refine wp_region_held_drew (S := fun w' => zG w' (w.heap.size + 2) (nA 7 0 0 0 0 (pa : Int) 0 0 0 (g : Int)) 57) (by kernel_rfl) ?_ (fun qe => ?_)
 ·(try dsimp only); exact hnS.drew
 refine tq 0 ?_ (hy := by (intro wq qi; have c9 := qi.cell 9; go_simp); (try rfl))
 refine tq 1 ?_ (hy := by (intro wq qi; have c9 := qi.cell 9; go_simp); (try rfl))
 refine tq 2 ?_ (hy := by (intro wq qi; have c9 := qi.cell 9; go_simp); (try rfl))
 refine tq 3 ?_ (hy := by (intro wq qi; have c9 := qi.cell 9; go_simp); (try rfl))
 refine zU 4 fun K hK => ?_
 go_simp
 refine (HOF.out _).mono ?_
 rintro e wO ⟨rfl, rfl⟩
 refine hK.out _ _ ?_ (fun qe => ?_)
 ·(try dsimp only); exact hnS.drew
 clear hK K
 (try simp only [Act.put, zm])
 refine tq 5 ?_ (hy := by (intro wq qi; have c9 := qi.cell 9; go_simp); (try rfl))
 refine tq 6 ?_ (hy := by (intro wq qi; have c9 := qi.cell 9; go_simp); (try rfl))
 refine tq 7 ?_ (hy := by (intro wq qi; have c9 := qi.cell 9; go_simp); (try rfl))
 refine tq 8 ?_ (hy := by (intro wq qi; have c9 := qi.cell 9; go_simp); (try rfl))
 have hvS : qm (wc.drew) w.heap.size 10 27 (fun i => qj (Z i)) := ⟨H5.out.2.2.2.1.heap⟩
 have q1 := hvS.cell g hg9
 have q2 := hvS.fz g
 refine zU 9 fun K hK => ?_
 go_simp
 refine hK.out _ _ ?_ (fun qe => ?_)
 ·(try dsimp only); exact (hnS.drew).other (by simp) _
 clear hK K
 (try simp only [Act.put, zm])
 refine wpAnyH_done (by kernel_rfl) ?_ _
 refine NoPanic.normal ?_
 have H6v : qm wc w.heap.size 10 27 (fun i => qj (Z i)) := ⟨H5.out.2.2.2.1.heap⟩
 have XR : zG (wc.setCell ⟨w.heap.size, g, none⟩ (.complex .f64 (floatOfInt .f64 (p : Int)) (floatOfInt .f64 (j : Int)))).drew w.heap.size (cH Z2) 27 := ⟨by rw [((H6v.set g _).drew).heap, HZ.out.2]; rcases HG.out with rfl | rfl | rfl | rfl | rfl | rfl | rfl | rfl | rfl <;> rfl⟩
 have hK6 : qb (fun b => b = w.heap.size) w5 (wc.setCell ⟨w.heap.size, g, none⟩ (.complex .f64 (floatOfInt .f64 (p : Int)) (floatOfInt .f64 (j : Int)))).drew := (HK0.out.setCell (p := ⟨w.heap.size, g, none⟩) rfl _).drew
 have YA : qm (wc.setCell ⟨w.heap.size, g, none⟩ (.complex .f64 (floatOfInt .f64 (p : Int)) (floatOfInt .f64 (j : Int)))).drew (w.heap.size + 1) 10 27 (fun _ => .complex .f64 0 0) := ⟨(((qb.refl (fun b => b = w.heap.size) wc).setCell (p := ⟨w.heap.size, g, none⟩) rfl _).drew.block _ H5.out.2.2.2.2.1.lt (by omega)).trans H5.out.2.2.2.2.1.heap⟩
 have K2 := HX.out.keeps H5.out.2.1 (hK6.mono (fun i _ e => .inr (by subst e; omega)))
 have Q9 : qb (fun b => Mt v b ∨ M2 b) w (wc.setCell ⟨w.heap.size, g, none⟩ (.complex .f64 (floatOfInt .f64 (p : Int)) (floatOfInt .f64 (j : Int)))).drew := H5.out.2.2.1.trans2 hK6 (fun i hi e => by omega)
 have yl := H5.out.1
 clear hK6 hvS H6v q1 q2 qe
 generalize hwd : (wc.setCell ⟨w.heap.size, g, none⟩ (.complex .f64 (floatOfInt .f64 (p : Int)) (floatOfInt .f64 (j : Int)))).drew = wd at XR YA K2 Q9 ⊢
 clear hwd hnS
 have k0 : wd.cell? ⟨w.heap.size, 0, none⟩ = some (qj (Z2 0)) := qc.at (had := Z2) XR 0 (by decide)
 have k1 : wd.cell? ⟨w.heap.size, 1, none⟩ = some (qj (Z2 1)) := qc.at (had := Z2) XR 1 (by decide)
 have k2 : wd.cell? ⟨w.heap.size, 2, none⟩ = some (qj (Z2 2)) := qc.at (had := Z2) XR 2 (by decide)
 have k3 : wd.cell? ⟨w.heap.size, 3, none⟩ = some (qj (Z2 3)) := qc.at (had := Z2) XR 3 (by decide)
 have k4 : wd.cell? ⟨w.heap.size, 4, none⟩ = some (qj (Z2 4)) := qc.at (had := Z2) XR 4 (by decide)
 have k5 : wd.cell? ⟨w.heap.size, 5, none⟩ = some (qj (Z2 5)) := qc.at (had := Z2) XR 5 (by decide)
 have k6 : wd.cell? ⟨w.heap.size, 6, none⟩ = some (qj (Z2 6)) := qc.at (had := Z2) XR 6 (by decide)
 have k7 : wd.cell? ⟨w.heap.size, 7, none⟩ = some (qj (Z2 7)) := qc.at (had := Z2) XR 7 (by decide)
 have k8 : wd.cell? ⟨w.heap.size, 8, none⟩ = some (qj (Z2 8)) := qc.at (had := Z2) XR 8 (by decide)
 have k9 : wd.cell? ⟨w.heap.size, 9, none⟩ = some (qj (Z2 9)) := qc.at (had := Z2) XR 9 (by decide)
 clear XR
 have r_ := YA.rf10
 have zI := ξ (kn (w := wd) (b := w.heap.size + 1) Z2)
 have za := ξ (qV (w := wd) (b := w.heap.size + 1) YA Z2)
 clear YA
 have qt := ξ (ζ yl (ζ K2 Q9))
 clear yl K2 Q9
 go_wp2
 obtain ⟨s0, s1, s2, s3, s4, s5, s6, s7, s8, s9⟩ := za.out
 first
 | refine bodyPost_ret (v := .agg (cH Z2)) (by simp [results, results101, go_sem, s0, s1, s2, s3, s4, s5, s6, s7, s8, s9]) rfl ⟨gs, ?_, qt.out.1, HX.out.mono (HX.out.keeps qt.out.2.1 (zI.out.mono (fun i _ e => .inr (by subst e; omega)))) (fun b hb => .inl hb), qt.out.2.2.trans2 zI.out (fun i hi e => by omega)⟩
 | refine bodyPost_ret (v := .agg (cH Z2)) (by simp [results, results101, go_sem, s0, s1, s2, s3, s4, s5, s6, s7, s8, s9]) rfl ⟨?_, gs, qt.out.1, HX.out.mono (HX.out.keeps qt.out.2.1 (zI.out.mono (fun i _ e => .inr (by subst e; omega)))) (fun b hb => .inl hb), qt.out.2.2.trans2 zI.out (fun i hi e => by omega)⟩
 show Ending.returned (qk Z2) = Ending.returned (qk ((qd s (.group (g : Int) u)).walk p j had))
 rw [HZ.out.1]
theorem Gt (jx : JX X v s xs B c1 n1 P1 c2 n2 M2 J) (fx : Fx v s xs B P1) (n p j pa : Nat) (N : Int) (u : T) (hn : n < v.n) (hp : p ≤ j) (hj : j ≤ s.length) (ht : zT (fun i => xs[i]?) (.group N u) n) (hx : xs[n]? = some ⟨7, 0, 0, 0, 0, (pa : Int), 0, 0, 0, N⟩) (la : pa < v.n) (hN : 1 ≤ N ∧ N ≤ 9) (hL : kX X v s M2 J pa u p j) : WalkC X v s M2 J n (.group N u) p j := by
 obtain ⟨g, rfl⟩ := Int.eq_ofNat_of_zero_le (show 0 ≤ N by omega)
 exact qjA jx fx n p j pa g u hn hp hj (by omega) hx la hL
theorem qet (jx : JX X v s xs B c1 n1 P1 c2 n2 M2 J) (fx : Fx v s xs B P1) (n p j pa pb : Nat) (ta tb : T) (hn : n < v.n) (hp : p ≤ j) (hj : j ≤ s.length) (ht : zT (fun i => xs[i]?) (.two 4 ta tb) n) (hx : xs[n]? = some ⟨4, 0, 0, 0, 0, (pa : Int), (pb : Int), 0, 0, 0⟩) (la : pa < v.n) (lb : pb < v.n) (hsa : zT (fun i => xs[i]?) ta pa) (hsb : zT (fun i => xs[i]?) tb pb) (Uj : zz ta 0) (Vw : zz tb 0)
  (hA : jI X v s B M2 J pa ta p) (hBe : ∀ k, p ≤ k → k ≤ j → jI X v s B M2 J pb tb k)
  (Gu : ∀ (had : Cp) (E : Nat → Prop) (es : List Lit) (w : World), qo s.length had → J E es w → (∀ b, E b → b < w.heap.size) → Calls prog 142 #[.pointer (some ⟨X, 0, none⟩), .int .i64 pa, .int .i64 pb, .int .i64 p, qk had] w fun e w' => ∃ (K : FuncId) (cap : Array Value), e = .returned (.func (.func K) #[] cap) ∧ (∀ S, qb S w w') ∧ ∀ k, p ≤ k → k ≤ s.length → QK v M2 J K cap k (qW (qd s ta) (qd s tb).asked p had k) E es w')
  (hLa : ∀ k, p ≤ k → k ≤ j → kX X v s M2 J pa ta p k) (hLb : ∀ k, p ≤ k → k ≤ j → kX X v s M2 J pb tb k j) : WalkC X v s M2 J n (.two 4 ta tb) p j :=
 VU jx fx n p j pa pb ta tb hn hp hj hx (qjD jx fx p j pa pb ta tb hp hj la lb Uj Vw (fx.ok pa ta la hsa).2.1 (fx.ok pb tb lb hsb).2.1 hA hBe Gu hLa hLb)
theorem Gv (jx : JX X v s xs B c1 n1 P1 c2 n2 M2 J) (fx : Fx v s xs B P1) (n p j q : Nat) (m M : Int) (u : T) (hn : n < v.n) (hp : p ≤ j) (hj : j ≤ s.length) (ht : zT (fun i => xs[i]?) (.times m M u) n) (hx : xs[n]? = some ⟨6, 0, 0, 0, 0, (q : Int), 0, m, M, 0⟩) (lq : q < v.n) (hq : zT (fun i => xs[i]?) u q) (hc : zr m M = true) (K0 : u.isBytes = none) (Uj : zz u 0)
  (hEa : ∀ a, p ≤ a → a ≤ j → jI X v s B M2 J q u a) (hEn : ∀ k, p ≤ k → k ≤ j → jI X v s B M2 J n (.times m M u) k)
  (Gu : ∀ a, p ≤ a → a ≤ j → ∀ (had : Cp) (E : Nat → Prop) (es : List Lit) (w : World), qo s.length had → J E es w → (∀ b, E b → b < w.heap.size) → Calls prog 142 #[.pointer (some ⟨X, 0, none⟩), .int .i64 q, .int .i64 n, .int .i64 a, qk had] w fun e w' => ∃ (K : FuncId) (cap : Array Value), e = .returned (.func (.func K) #[] cap) ∧ (∀ S, qb S w w') ∧ ∀ k, a ≤ k → k ≤ s.length → QK v M2 J K cap k (qW (qd s u) (qd s u).asked a had k) E es w')
  (hLe : ∀ a b, p ≤ a → a ≤ b → b ≤ j → kX X v s M2 J q u a b) : WalkC X v s M2 J n (.times m M u) p j :=
 XA jx fx n p j q m M u hn hp hj hx (qlU jx fx n p j q m M u hn hp hj hx lq hc K0 Uj (fx.ok q u lq hq).2.1 hEa hEn Gu hLe)
end
theorem Jf {t : T} (h : t.Lok) : zz t 0 := by
 unfold zz
 split
 ·rename_i m M u
  have := J2 h.1
  split
  ·show ((0 : Nat) : Int) ≤ m; omega
  ·rename_i hM
   show ((0 : Nat) : Int) ≤ M
   rcases this.2.1 with q | q
   ·exact absurd q hM
   ·omega
 ·trivial
section
variable {X : Nat} {v : kU} {s : List UInt8} {xs : List Nd} {B : Nat} {c1 : Lit → Nat} {n1 : Nat} {P1 : Lit → Prop} {c2 : Lit → Nat} {n2 : Nat} {M2 : Nat → Prop} {J : (Nat → Prop) → List Lit → World → Prop}
def Vm (X : Nat) (v : kU) (s : List UInt8) (B : Nat) (M2 : Nat → Prop) (J : (Nat → Prop) → List Lit → World → Prop) (n : Nat) (t : T) : Prop :=
 (∀ p, p ≤ s.length → zA X v s B M2 J 132 n t p) ∧ ∀ p j, p ≤ j → j ≤ s.length → kX X v s M2 J n t p j
theorem YB (jx : JX X v s xs B c1 n1 P1 c2 n2 M2 J) (fx : Fx v s xs B P1)
  (VT : ∀ (n k : Nat) (t : T), n < v.n → k ≤ s.length → zT (fun i => xs[i]?) t n → zA X v s B M2 J 113 n t k → GoC X v s B M2 J n t k)
  (n p q : Nat) (m M : Int) (u : T) (hn : n < v.n) (hp : p ≤ s.length) (ht : zT (fun i => xs[i]?) (.times m M u) n) (hx : xs[n]? = some ⟨6, 0, 0, 0, 0, (q : Int), 0, m, M, 0⟩) (hq : zT (fun i => xs[i]?) u q) (lq : q < v.n) (hc : zr m M = true) (K0 : u.isBytes = none) (Nq : Vm X v s B M2 J q u)
  (hk : ∀ k, p < k → k ≤ s.length → zA X v s B M2 J 132 n (.times m M u) k) : zA X v s B M2 J 132 n (.times m M u) p :=
 qbI jx fx n p q m M u hn hp ht hx K0 (qgI jx fx n p q m M u hn hp hx (XB hc).1 (XB hc).2.1 K0 (Jf hq.1) (fx.ok q u lq hq).2.1 (Z4 jx fx q p u lq hp hq (Nq.1 p hp))
  (fun k h1 h2 => VT n k _ hn h2 ht (qao jx fx n k _ hn h2 ht (hk k h1 h2)))
  (fun had E es w qB hJ hEb => by
   have := Kh jx fx q n p u (.times m M u) lq hn hq ht (fun k h3 h4 => Nq.2 p k h3 h4) had E es w qB hJ hEb
   exact this))
theorem Ki {u : T} {F : Nat → Bool} (h : u.isBytes = some F) : ∃ y : Nd, u = .leaf y ∧ y.kind = 1 ∧ F = y.set := by
 cases u with
 | leaf y =>
  change (if y.kind = 1 then some y.set else none) = some F at h
  by_cases hk : y.kind = 1
  ·rw [if_pos hk] at h; exact ⟨y, rfl, hk, (Option.some.inj h).symm⟩
  ·rw [if_neg hk] at h; cases h
 | two _ _ _ => cases h
 | times _ _ _ => cases h
 | group _ _ => cases h
theorem Xy {G : Gs} (h : ∀ g, G g = false) : XP G = true := jg.2 fun g _ => h g
theorem YC (jx : JX X v s xs B c1 n1 P1 c2 n2 M2 J) (fx : Fx v s xs B P1)
  (Jc : ∀ (i : Nat) (x : Nd), xs[i]? = some x → x.kind = -1 → x = QN)
  (VT : ∀ (n k : Nat) (t : T), n < v.n → k ≤ s.length → zT (fun i => xs[i]?) t n → zA X v s B M2 J 113 n t k → GoC X v s B M2 J n t k)
  (qaE : ∀ (i p : Nat) (x : Nd) (had : Cp) (w : World), xs[i]? = some x → (x.kind = 0 ∨ x.kind = 1 ∨ x.kind = 2 ∨ x.kind = 3 ∨ (x.kind = 8 ∧ 1 ≤ x.n ∧ x.n ≤ 9)) → p ≤ s.length → qo s.length had → km w X v s → Calls prog 149 #[.pointer (some ⟨X, 0, none⟩), Je x, .int .i64 p, qk had] w (Qd (zE s x p had) w))
  (n : Nat) (hn : n < v.n) (t : T) (ht : zT (fun i => xs[i]?) t n) (ih : ∀ m, m < n → ∀ u, zT (fun i => xs[i]?) u m → Vm X v s B M2 J m u) : Vm X v s B M2 J n t := by
 have hE : ∀ (m : Nat) (u : T), zT (fun i => xs[i]?) u m → m < v.n → (∀ p, p ≤ s.length → zA X v s B M2 J 132 m u p) → ∀ p, p ≤ s.length → jI X v s B M2 J m u p :=
  fun m u hu hm hf p hp => Z4 jx fx m p u hm hp hu (hf p hp)
 have hAd : ∀ (m : Nat) (u : T), zT (fun i => xs[i]?) u m → m < v.n → (∀ p, p ≤ s.length → zA X v s B M2 J 132 m u p) → ∀ p, p ≤ s.length → zA X v s B M2 J 113 m u p :=
  fun m u hu hm hf p hp => qao jx fx m p u hm hp hu (hf p hp)
 have hR : ∀ p, p ≤ s.length → zA X v s B M2 J 132 n t p := by
  cases t with
  | leaf x =>
   intro p hp
   have hx := ht.leaf
   rcases ht.1 with q | q
   ·obtain rfl := Jc n x hx q
    exact Vn jx fx n p hn hp hx
   ·exact Gw jx fx n p x hn hp ht hx (q.imp id (Or.imp id (Or.imp id (Or.imp id (fun r => r.1))))) (fun had w hc htr => qaE n p x had w hx q hp hc htr)
  | two k a b =>
   intro p hp
   obtain ⟨pa, pb, hx, ha, hb, la, lb, hk⟩ := ht.two
   have Na := ih pa la a ha
   have Nb := ih pb lb b hb
   rcases hk with rfl | rfl
   ·exact qbJ jx fx n p pa pb a b hn hp hx (Jf ha.1) (Jf hb.1) (fx.ok pa a (by omega) ha).2.1 (hE pa a ha (by omega) Na.1 p hp)
     (fun k h1 h2 => VT pb k b (by omega) h2 hb (hAd pb b hb (by omega) Nb.1 k h2))
     (fun had E es w hc hJ hEb => Kh jx fx pa pb p a b (by omega) (by omega) ha hb (fun k h1 h2 => Na.2 p k h1 h2) had E es w hc hJ hEb)
   ·exact qbK jx fx n p pa pb a b hn hp hx (Jf ha.1) (Jf hb.1) (hAd pa a ha (by omega) Na.1 p hp) (hAd pb b hb (by omega) Nb.1 p hp)
  | times m M u =>
   obtain ⟨q, hx, hq, lq, hc⟩ := ht.times
   have Nq := ih q lq u hq
   have Uk := XB hc
   cases K0 : u.isBytes with
   | some F =>
    obtain ⟨y, rfl, hy1, rfl⟩ := Ki K0
    exact fun p hp => qbL jx fx n p q m M _ y hn hp ht hx (by omega) hq.leaf Uk.1 K0
   | none =>
    have yJ : ∀ (d p : Nat), p ≤ s.length → s.length ≤ p + d → zA X v s B M2 J 132 n (.times m M u) p := by
     intro d
     induction d with
     | zero => exact fun p hp hd => YB jx fx VT n p q m M u hn hp ht hx hq (by omega) hc K0 Nq (fun k h1 h2 => by omega)
     | succ d ihd => exact fun p hp hd => YB jx fx VT n p q m M u hn hp ht hx hq (by omega) hc K0 Nq (fun k h1 h2 => ihd k h2 (by omega))
    exact fun p hp => yJ s.length p hp (by omega)
  | group N u =>
   intro p hp
   obtain ⟨pa, hx, ha, la, h1, h9⟩ := ht.group
   have Na := ih pa la u ha
   exact Ul jx fx n p pa N u hn hp hx (Jf ha.1) (hAd pa u ha (by omega) Na.1 p hp)
 refine ⟨hR, fun p j hp hj => ?_⟩
 cases Xg : XP (qd s t).ever with
 | true => exact Gx jx fx n p j t hn ht Xg
 | false =>
  refine Gy jx fx n p j t hn hp hj ht Xg ?_
  cases t with
  | leaf x =>
   have e : XP (qd s (.leaf x)).ever = true := Xy (fun g => rfl)
   rw [e] at Xg; cases Xg
  | two k a b =>
   obtain ⟨pa, pb, hx, ha, hb, la, lb, hk⟩ := ht.two
   have Na := ih pa la a ha
   have Nb := ih pb lb b hb
   rcases hk with rfl | rfl
   ·exact qet jx fx n p j pa pb a b hn hp hj ht hx (by omega) (by omega) ha hb (Jf ha.1) (Jf hb.1) (hE pa a ha (by omega) Na.1 p (by omega))
     (fun k h1 h2 => hE pb b hb (by omega) Nb.1 k (by omega))
     (fun had E es w hc hJ hEb => Kh jx fx pa pb p a b (by omega) (by omega) ha hb (fun k h1 h2 => Na.2 p k h1 h2) had E es w hc hJ hEb)
     (fun k h1 h2 => Na.2 p k h1 (by omega)) (fun k h1 h2 => Nb.2 k j h2 hj)
   ·exact qeu jx fx n p j pa pb a b hn hp hj ht hx (by omega) (by omega) ha hb (Jf ha.1) (hE pa a ha (by omega) Na.1 p (by omega)) (Na.2 p j hp hj) (Nb.2 p j hp hj)
  | times m M u =>
   obtain ⟨q, hx, hq, lq, hc⟩ := ht.times
   have Nq := ih q lq u hq
   cases K0 : u.isBytes with
   | some F =>
    obtain ⟨y, rfl, hy1, rfl⟩ := Ki K0
    have e : XP (qd s (.times m M (.leaf y))).ever = true := Xy (fun g => rfl)
    rw [e] at Xg; cases Xg
   | none =>
    exact Gv jx fx n p j q m M u hn hp hj ht hx (by omega) hq hc K0 (Jf hq.1) (fun a h1 h2 => hE q u hq (by omega) Nq.1 a (by omega)) (fun k h1 h2 => hE n _ ht hn hR k (by omega))
     (fun a h1 h2 had E es w qB hJ hEb => Kh jx fx q n a u _ (by omega) hn hq ht (fun k h3 h4 => Nq.2 a k h3 h4) had E es w qB hJ hEb)
     (fun a b h1 h2 h3 => Nq.2 a b h2 (by omega))
  | group N u =>
   obtain ⟨pa, hx, ha, la, h1, h9⟩ := ht.group
   have Na := ih pa la u ha
   exact Gt jx fx n p j pa N u hn hp hj ht hx (by omega) ⟨h1, h9⟩ (Na.2 p j hp hj)
theorem Yy (jx : JX X v s xs B c1 n1 P1 c2 n2 M2 J) (fx : Fx v s xs B P1)
  (Jc : ∀ (i : Nat) (x : Nd), xs[i]? = some x → x.kind = -1 → x = QN)
  (VT : ∀ (n k : Nat) (t : T), n < v.n → k ≤ s.length → zT (fun i => xs[i]?) t n → zA X v s B M2 J 113 n t k → GoC X v s B M2 J n t k)
  (qaE : ∀ (i p : Nat) (x : Nd) (had : Cp) (w : World), xs[i]? = some x → (x.kind = 0 ∨ x.kind = 1 ∨ x.kind = 2 ∨ x.kind = 3 ∨ (x.kind = 8 ∧ 1 ≤ x.n ∧ x.n ≤ 9)) → p ≤ s.length → qo s.length had → km w X v s → Calls prog 149 #[.pointer (some ⟨X, 0, none⟩), Je x, .int .i64 p, qk had] w (Qd (zE s x p had) w)) :
  ∀ (K n : Nat), n ≤ K → n < v.n → ∀ t, zT (fun i => xs[i]?) t n → Vm X v s B M2 J n t := by
 intro K
 induction K with
 | zero => exact fun n hK hn t ht => YC jx fx Jc VT qaE n hn t ht (fun m hm => by omega)
 | succ K ih => exact fun n hK hn t ht => YC jx fx Jc VT qaE n hn t ht (fun m hm u hu => ih m (by omega) (by omega) u hu)
end
end Go.Proofs.YtjgegohidhdbpaaGreatDoor
namespace Go.Proofs.YtjgegohidhdbpaaGreatDoor
open Go.RowKit Go.Proofs.YtjgegohidhdbpaaGreatDoor.Fl
theorem qev (w : World) : Calls prog 167 #[qj none] w fun e w' => e = .returned (.int .i64 0) ∧ w' = w := by
 refine (qjf qf qf w (by unfold sp; rw [yR]; rfl)).mono ?_
 rintro e w' ⟨h1, h2⟩; exact ⟨h1, h2.symm⟩
theorem qew (a b : Nat) (h1 : a ≤ b) (h2 : b ≤ 999999999) (w : World) : Calls prog 167 #[qj (some (a, b))] w fun e w' => e = .returned (.int .i64 ((b - a : Nat) : Int)) ∧ w' = w := by
 refine (qgu (floatOfInt .f64 (a : Int)) (floatOfInt .f64 (b : Int)) a b w (KP a b h1 h2)).mono ?_
 rintro e w' ⟨h3, h4⟩
 exact ⟨by rw [h3]; congr 2; omega, h4.symm⟩
theorem qex (w : World) : Calls prog 68 #[qj none] w fun e w' => e = .returned (.bool false) ∧ w' = w := U8 none (fun a b h => by cases h) w
theorem qey (a b : Nat) (h1 : a ≤ b) (h2 : b ≤ 999999999) (w : World) : Calls prog 68 #[qj (some (a, b))] w fun e w' => e = .returned (.bool true) ∧ w' = w := U8 (some (a, b)) (fun a' b' h => by cases h; exact ⟨h1, h2⟩) w
theorem qez (s : List UInt8) (p : Nat) (hp : p ≤ s.length) (W : World) : (Instr.slice 9 (.string ⟨s.toArray⟩) (some (.int .i64 (p : Int))) none none).run prog W = .ok (.string ⟨(s.drop p).toArray⟩) W := by
 have kR : (⟨s.toArray⟩ : ByteArray).size = s.length := by simp [ByteArray.size]
 have e : (⟨s.toArray⟩ : ByteArray).extract (p : Int).toNat (⟨s.toArray⟩ : ByteArray).size = ⟨(s.drop p).toArray⟩ := by
  apply ByteArray.ext
  apply Array.ext'
  simp only [ByteArray.data_extract, Array.toList_extract, Int.toNat_natCast, List.extract_eq_take_drop]
  rw [List.take_of_length_le (by simp [ByteArray.size])]
 rw [run_slice_string_from_if (P := prog) W 9 _ .i64 (p : Int) underlying9, if_pos ⟨by omega, by rw [kR]; omega⟩, e]
theorem qep (X p g : Nat) (v : kU) (s : List UInt8) (w0 w1 w2 w3 : Nat) (xa xb m M : Int) (hg : 1 ≤ g ∧ g ≤ 9) (hp : p ≤ s.length) (hs : s.length ≤ 999999999) (had : Cp) (hc : qo s.length had) (w : World) (h : km w X v s) :
  Calls prog 149 #[.pointer (some ⟨X, 0, none⟩), Je ⟨8, w0, w1, w2, w3, xa, xb, m, M, (g : Int)⟩, .int .i64 p, qk had] w (Qd (zE s ⟨8, w0, w1, w2, w3, xa, xb, m, M, (g : Int)⟩ p had) w) := by
 have q1 := h.c1
 have lX := h.lt
 clear h
 unfold Je qk
 simp only
 obtain ⟨o, ho⟩ : ∃ o, o = zE s ⟨8, w0, w1, w2, w3, xa, xb, m, M, (g : Int)⟩ p had := ⟨_, rfl⟩
 have ho2 : o = (match had g with
  | none => none
  | some (a, b) => if ((s.drop a).take (b - a)).isPrefixOf (s.drop p) then some (b - a) else none) := ho
 rw [← ho]
 clear ho
 obtain ⟨og, hog⟩ : ∃ og, og = had g := ⟨_, rfl⟩
 rw [← hog] at ho2
 have Qt : ∀ a b, og = some (a, b) → a ≤ b ∧ b ≤ s.length := fun a b e => hc g a b (by rw [← hog]; exact e)
 have hbe : ∀ o1 o2, Below w.heap.size w ((w.alloc o1).alloc o2) := fun _ _ => ((Below.refl _ w).alloc (Nat.le_refl _) _).alloc (by simp) _
 have HBE := ξ hbe
 have qu : had g = og := hog.symm
 clear hbe hc hog
 cases og with
 | none =>
  have HLn := ξ qev
  have HMy := ξ qex
  have ho3 : o = none := ho2
  subst ho3
  clear ho2 Qt
  go_enter func149, ntmps149
  rcases (by omega : g = 1 ∨ g = 2 ∨ g = 3 ∨ g = 4 ∨ g = 5 ∨ g = 6 ∨ g = 7 ∨ g = 8 ∨ g = 9) with rfl | rfl | rfl | rfl | rfl | rfl | rfl | rfl | rfl <;>
  ·rw [qu]
   go_wp2_with fail
   go_quiet (first | with_reducible exact Calls.quiet_of_same (HLn.out _) | with_reducible exact Calls.quiet_of_same (HMy.out _))
   go_wp2
   go_ret2
   exact ⟨⟨0, rfl, fun k h => by cases h⟩, Go.below_drewN (HBE.out _ _) _⟩
 | some ab =>
  obtain ⟨a, b⟩ := ab
  obtain ⟨Kq, hbs⟩ := Qt a b rfl
  have HLn := ξ (qew a b Kq (by omega))
  have HMy := ξ (qey a b Kq (by omega))
  obtain ⟨R, hR⟩ : ∃ R : ByteArray, R = ⟨(s.drop p).toArray⟩ := ⟨_, rfl⟩
  obtain ⟨D, hD⟩ : ∃ D : ByteArray, D = ⟨((s.drop a).take (b - a)).toArray⟩ := ⟨_, rfl⟩
  have jp := qez s p hp
  rw [← hR] at jp
  have VX := fun w => qdY s hs (some (a, b)) (fun a' b' h => by cases h; exact ⟨Kq, hbs⟩) w
  rw [show (⟨(ZW s (some (a, b))).toArray⟩ : ByteArray) = D from hD.symm] at VX
  have hpf := fun w => Tryz.strings_HasPrefix R D w
  obtain ⟨r, hr⟩ : ∃ r, r = ((s.drop a).take (b - a)).isPrefixOf (s.drop p) := ⟨_, rfl⟩
  rw [show Lib.hasPrefix R.data.toList D.data.toList = r by rw [hR, hD, hr]; rfl] at hpf
  have HCT := ξ VX
  have HPF := ξ hpf
  have ho3 : o = if r = true then some (b - a) else none := by rw [ho2, hr]
  have HO3 := ξ ho3
  clear ho2 Qt VX hpf hR hD hr ho3
  go_enter func149, ntmps149
  rcases (by omega : g = 1 ∨ g = 2 ∨ g = 3 ∨ g = 4 ∨ g = 5 ∨ g = 6 ∨ g = 7 ∨ g = 8 ∨ g = 9) with rfl | rfl | rfl | rfl | rfl | rfl | rfl | rfl | rfl <;>
  ·rw [qu]
   go_wp2_with fail
   go_quiet (first | with_reducible exact Calls.quiet_of_same (HLn.out _) | with_reducible exact Calls.quiet_of_same (HMy.out _) | with_reducible exact Calls.quiet_of_same (HCT.out _) | with_reducible exact Calls.quiet_of_same (HPF.out _))
   go_wp2
   go_ret2
   cases r with
   | true => exact ⟨⟨((b - a : Nat) : Int), by rw [HO3.out]; rfl, fun k h => by rw [HO3.out] at h; cases h; rfl⟩, Go.below_drewN (HBE.out _ _) _⟩
   | false => exact ⟨⟨((b - a : Nat) : Int), by rw [HO3.out]; rfl, fun k h => by rw [HO3.out] at h; cases h⟩, Go.below_drewN (HBE.out _ _) _⟩
end Go.Proofs.YtjgegohidhdbpaaGreatDoor
