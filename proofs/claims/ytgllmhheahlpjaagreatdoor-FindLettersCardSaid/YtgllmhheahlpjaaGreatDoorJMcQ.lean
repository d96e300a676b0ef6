/- A trial: walk at a group, at a Cat, at Times. -/
import Derived.Test.YtgllmhheahlpjaaGreatDoorJMcT
import Derived.Test.YtgllmhheahlpjaaGreatDoorJSpanC
import Derived.Test.YtgllmhheahlpjaaGreatDoorJMcM
import Derived.Test.YtgllmhheahlpjaaGreatDoorJShelf
set_option linter.unusedVariables false
set_option linter.unusedSimpArgs false
set_option maxRecDepth 100000
set_option maxHeartbeats 40000000
namespace Go.Proofs.YtgllmhheahlpjaaGreatDoor
open Go.RowKit Go.Maps Go.WideMaps
section
variable {X : Nat} {v : TrV} {s : List UInt8} {xs : List Nd} {B : Nat} {c1 : Lit → Nat} {n1 : Nat} {P1 : Lit → Prop} {c2 : Lit → Nat} {n2 : Nat} {M2 : Nat → Prop} {J : (Nat → Prop) → List Lit → World → Prop}
theorem walk_g (jx : JX X v s xs B c1 n1 P1 c2 n2 M2 J) (fx : Fx v s xs B P1) (n p j pa g : Nat) (u : T) (hn : n < v.n) (hp : p ≤ j) (hj : j ≤ s.length) (hg : g = 1 ∨ g = 2 ∨ g = 3 ∨ g = 4 ∨ g = 5 ∨ g = 6 ∨ g = 7 ∨ g = 8 ∨ g = 9) (hx : xs[n]? = some ⟨7, 0, 0, 0, 0, (pa : Int), 0, 0, 0, (g : Int)⟩) (la : pa < v.n) (hL : LeaveC X v s M2 J pa u p j) : WalkC X v s M2 J n (.group (g : Int) u) p j := by
 intro had E es w hcap hJ hE
 have hsl := fx.sl
 have hn2 := fx.n2
 have hB0 := fx.B1
 have iv := jx.iv hJ
 obtain ⟨lX, llb, lrb, lbn, lbr, lbl, lw⟩ := iv.lts
 have HM2 := Lib.hid (fun b hb => (jx.lt hJ b hb).1)
 have hk2 : ∀ S, Keeps S w ((w.alloc (.cells (cH had) 27)).alloc (.cells cZ 27)) := fun S => ((Keeps.refl S w).alloc _).alloc _
 have hk3 : ∀ S, Keeps S w (((w.alloc (.cells (cH had) 27)).alloc (.cells cZ 27)).alloc (.cells (nA 7 0 0 0 0 (pa : Int) 0 0 0 (g : Int)) 60)) := fun S => (hk2 S).alloc _
 have iv2 := iv.keeps (hk2 _)
 have x0 := iv2.tr.c0
 have d := iv2.nodes.cell n _ hx
 have d0 : ((w.alloc (.cells (cH had) 27)).alloc (.cells cZ 27)).cell? ⟨v.lb, v.lo + n * 10, none⟩ = some (.int .i64 7) := d 0 _ rfl
 have d1 : ((w.alloc (.cells (cH had) 27)).alloc (.cells cZ 27)).cell? ⟨v.lb, v.lo + n * 10 + 1, none⟩ = some (.int .u64 0) := d 1 _ rfl
 have d2 : ((w.alloc (.cells (cH had) 27)).alloc (.cells cZ 27)).cell? ⟨v.lb, v.lo + n * 10 + 2, none⟩ = some (.int .u64 0) := d 2 _ rfl
 have d3 : ((w.alloc (.cells (cH had) 27)).alloc (.cells cZ 27)).cell? ⟨v.lb, v.lo + n * 10 + 3, none⟩ = some (.int .u64 0) := d 3 _ rfl
 have d4 : ((w.alloc (.cells (cH had) 27)).alloc (.cells cZ 27)).cell? ⟨v.lb, v.lo + n * 10 + 4, none⟩ = some (.int .u64 0) := d 4 _ rfl
 have d5 : ((w.alloc (.cells (cH had) 27)).alloc (.cells cZ 27)).cell? ⟨v.lb, v.lo + n * 10 + 5, none⟩ = some (.int .i64 (pa : Int)) := d 5 _ rfl
 have d6 : ((w.alloc (.cells (cH had) 27)).alloc (.cells cZ 27)).cell? ⟨v.lb, v.lo + n * 10 + 6, none⟩ = some (.int .i64 0) := d 6 _ rfl
 have d7 : ((w.alloc (.cells (cH had) 27)).alloc (.cells cZ 27)).cell? ⟨v.lb, v.lo + n * 10 + 7, none⟩ = some (.int .i64 0) := d 7 _ rfl
 have d8 : ((w.alloc (.cells (cH had) 27)).alloc (.cells cZ 27)).cell? ⟨v.lb, v.lo + n * 10 + 8, none⟩ = some (.int .i64 0) := d 8 _ rfl
 have d9 : ((w.alloc (.cells (cH had) 27)).alloc (.cells cZ 27)).cell? ⟨v.lb, v.lo + n * 10 + 9, none⟩ = some (.int .i64 (g : Int)) := d 9 _ rfl
 have hb3 := ((capBlk w had).alloc (.cells cZ 27)).alloc (.cells (nA 7 0 0 0 0 (pa : Int) 0 0 0 (g : Int)) 60)
 have hs3 : (((w.alloc (.cells (cH had) 27)).alloc (.cells cZ 27)).alloc (.cells (nA 7 0 0 0 0 (pa : Int) 0 0 0 (g : Int)) 60)).heap.size = w.heap.size + 3 := by simp
 obtain ⟨k0, k1, k2, k3, k4, k5, k6, k7, k8, k9⟩ := capBlk.ten (w := (((w.alloc (.cells (cH had) 27)).alloc (.cells cZ 27)).alloc (.cells (nA 7 0 0 0 0 (pa : Int) 0 0 0 (g : Int)) 60))) (b := w.heap.size) (had := had) hb3
 have hr3 : VRow (((w.alloc (.cells (cH had) 27)).alloc (.cells cZ 27)).alloc (.cells (nA 7 0 0 0 0 (pa : Int) 0 0 0 (g : Int)) 60)) (w.heap.size + 1) 10 27 (fun _ => .complex .f64 0 0) := by
  have := VRow.new (w.alloc (.cells (cH had) 27)) 10 27 (fun _ => .complex .f64 0 0)
  rw [World.size_alloc] at this
  exact ⟨heap_alloc _ this.heap⟩
 have hn3 : Blk (((w.alloc (.cells (cH had) 27)).alloc (.cells cZ 27)).alloc (.cells (nA 7 0 0 0 0 (pa : Int) 0 0 0 (g : Int)) 60)) (w.heap.size + 2) (nA 7 0 0 0 0 (pa : Int) 0 0 0 (g : Int)) 60 := by
  have := Blk.new ((w.alloc (.cells (cH had) 27)).alloc (.cells cZ 27)) (nA 7 0 0 0 0 (pa : Int) 0 0 0 (g : Int)) 60
  rw [World.size_alloc, World.size_alloc] at this
  exact this
 have hJ3 : J (fun b => E b ∨ (w.heap.size ≤ b ∧ b < w.heap.size + 3)) es (((w.alloc (.cells (cH had) 27)).alloc (.cells cZ 27)).alloc (.cells (nA 7 0 0 0 0 (pa : Int) 0 0 0 (g : Int)) 60)) := jx.mono (jx.keeps (jx.fresh hJ) (hk3 _)) (fun b hb => hb.imp id (fun e => e.1))
 have hE3 : ∀ b, (E b ∨ (w.heap.size ≤ b ∧ b < w.heap.size + 3)) → b < (((w.alloc (.cells (cH had) 27)).alloc (.cells cZ 27)).alloc (.cells (nA 7 0 0 0 0 (pa : Int) 0 0 0 (g : Int)) 60)).heap.size := fun b hb => by
  rw [hs3]
  rcases hb with hb | hb
  ·have := hE b hb; omega
  ·omega
 have hno : ∀ b, w.heap.size ≤ b → ¬ (Mt v b ∨ M2 b) := fun b hb e => by
  rcases e with e | e
  ·rcases e with e | e | e <;> omega
  ·have := HM2.out b e; omega
 have HX := Lib.hid jx
 have HE := Lib.hid hE
 have HCAP := Lib.hid hcap
 have HK3 := Lib.hid hk3
 have HB3 := Lib.hid (And.intro hb3 (And.intro hr3 hn3))
 have HJ3 := Lib.hid (And.intro hJ3 hE3)
 have HNO := Lib.hid hno
 have hcall := hL had _ es _ hcap hJ3 hE3
 obtain ⟨Z, hZ⟩ : ∃ Z, Z = (semT s u).leave p j had := ⟨_, rfl⟩
 rw [← hZ] at hcall
 obtain ⟨Z2, hZ2⟩ : ∃ Z2 : Cp, Z2 = (fun i => if i = g then some (p, j) else Z i) := ⟨_, rfl⟩
 have hw : (semT s (.group (g : Int) u)).walk p j had = Z2 := by rw [hZ2, hZ]; rfl
 have hg9 : g < 10 := by omega
 have hgI : (g : Int) < 10 := by omega
 have HG := Lib.hid hg
 clear hg
 unfold capV at hcall
 have HCALL := Lib.hid hcall
 have HZ := Lib.hid (And.intro hw hZ2)
 clear hcall hx hL hZ hw hZ2
 clear d hk2 hk3 iv iv2 hb3 hr3 hn3 hJ hJ3 hE hE3 hcap hno jx hs3
 unfold capV
 go_enter Tryz.func109, Tryz.ntmps109
 go_wp2_with fail
 refine HCALL.out.mono ?_
 rintro e w5 ⟨gs, rfl, hpre5, hJ5, hk5⟩
 clear HCALL k0 k1 k2 k3 k4 k5 k6 k7 k8 k9
 have hb5 := HB3.out.1.keeps hk5 (HNO.out _ (by omega))
 have hn5 := HB3.out.2.2.keeps hk5 (HNO.out _ (by omega))
 have hr5 : VRow w5 (w.heap.size + 1) 10 27 (fun _ => .complex .f64 0 0) := ⟨(hk5.block _ HB3.out.2.1.lt (HNO.out _ (by omega))).trans HB3.out.2.1.heap⟩
 have l5 : w.heap.size + 3 ≤ w5.heap.size := by have := hk5.size; simp at this; omega
 have hv5 : VRow w5 w.heap.size 10 27 (fun i => spV (had i)) := ⟨hb5.heap⟩
 have hbS := blk_store hv5 Z
 obtain ⟨r0, r1, r2, r3, r4, r5, r6, r7, r8, r9, f0, f1, f2, f3, f4, f5, f6, f7, f8, f9⟩ := hv5.rf10
 obtain ⟨s0, s1, s2, s3, s4, s5, s6, s7, s8, s9⟩ := st10 (w := w5) (b := w.heap.size) hv5 Z
 have HKS := Lib.hid (kp10 (w := w5) (b := w.heap.size) Z)
 have HSS := Lib.hid (And.intro s0 (And.intro s1 (And.intro s2 (And.intro s3 (And.intro s4 (And.intro s5 (And.intro s6 (And.intro s7 (And.intro s8 s9)))))))))
 clear hv5 s0 s1 s2 s3 s4 s5 s6 s7 s8 s9
 have hnS := hn5.keeps HKS.out (by omega)
 have hrS : VRow ((((((((((w5.setCell ⟨w.heap.size, 0, none⟩ (spV (Z 0))).setCell ⟨w.heap.size, 1, none⟩ (spV (Z 1))).setCell ⟨w.heap.size, 2, none⟩ (spV (Z 2))).setCell ⟨w.heap.size, 3, none⟩ (spV (Z 3))).setCell ⟨w.heap.size, 4, none⟩ (spV (Z 4))).setCell ⟨w.heap.size, 5, none⟩ (spV (Z 5))).setCell ⟨w.heap.size, 6, none⟩ (spV (Z 6))).setCell ⟨w.heap.size, 7, none⟩ (spV (Z 7))).setCell ⟨w.heap.size, 8, none⟩ (spV (Z 8))).setCell ⟨w.heap.size, 9, none⟩ (spV (Z 9))) (w.heap.size + 1) 10 27 (fun _ => .complex .f64 0 0) := ⟨(HKS.out.block _ hr5.lt (by omega)).trans hr5.heap⟩
 have H5 := Lib.hid (And.intro hpre5 (And.intro hJ5 (And.intro ((HK3.out _).trans hk5) (And.intro hbS (And.intro hrS hnS)))))
 have HK0 := Lib.hid (HKS.out)
 clear hpre5 hJ5 hk5 hb5 hn5 hr5 hbS hrS HSS HKS
 have HOF := Lib.hid (fun W => of_yes (p : Int) (j : Int) W (by omega) (by omega) (by omega))
 go_wp2_with fail
 generalize hwc : ((((((((((w5.setCell ⟨w.heap.size, 0, none⟩ (spV (Z 0))).setCell ⟨w.heap.size, 1, none⟩ (spV (Z 1))).setCell ⟨w.heap.size, 2, none⟩ (spV (Z 2))).setCell ⟨w.heap.size, 3, none⟩ (spV (Z 3))).setCell ⟨w.heap.size, 4, none⟩ (spV (Z 4))).setCell ⟨w.heap.size, 5, none⟩ (spV (Z 5))).setCell ⟨w.heap.size, 6, none⟩ (spV (Z 6))).setCell ⟨w.heap.size, 7, none⟩ (spV (Z 7))).setCell ⟨w.heap.size, 8, none⟩ (spV (Z 8))).setCell ⟨w.heap.size, 9, none⟩ (spV (Z 9))) = wc at H5 HK0 hnS ⊢
 clear hwc
 refine wp_region_noPanic ?_
 refine wp_region_held_drew (S := fun w' => Blk w' (w.heap.size + 2) (nA 7 0 0 0 0 (pa : Int) 0 0 0 (g : Int)) 60) (by kernel_rfl) ?_ (fun hHeld => ?_)
 ·(try dsimp only); exact hnS.drew
 refine tk (i := 0) (v := ?_) rfl ?_ ?_; rotate_left
 ·(intro wq hSw; (try dsimp only at hSw); have c9 := hSw.cell 9; go_simp); (try with_reducible rfl)
 (try simp only [Act.put, tkS])
 refine tk (i := 1) (v := ?_) rfl ?_ ?_; rotate_left
 ·(intro wq hSw; (try dsimp only at hSw); have c9 := hSw.cell 9; go_simp); (try with_reducible rfl)
 (try simp only [Act.put, tkS])
 refine tk (i := 2) (v := ?_) rfl ?_ ?_; rotate_left
 ·(intro wq hSw; (try dsimp only at hSw); have c9 := hSw.cell 9; go_simp); (try with_reducible rfl)
 (try simp only [Act.put, tkS])
 refine tk (i := 3) (v := ?_) rfl ?_ ?_; rotate_left
 ·(intro wq hSw; (try dsimp only at hSw); have c9 := hSw.cell 9; go_simp); (try with_reducible rfl)
 (try simp only [Act.put, tkS])
 refine wpAnyH_ready (rs := [4]) (by kernel_rfl) (by simp) ?_
 refine AllReadyH.cons rfl (fun K hK => ?_) ?_
 rotate_left
 ·exact AllReadyH.nil
 go_simp
 refine (HOF.out _).mono ?_
 rintro e wO ⟨rfl, rfl⟩
 refine hK.out _ _ ?_ (fun hHeld => ?_)
 ·(try dsimp only); exact hnS.drew
 clear hK K
 (try simp only [Act.put, tkS])
 refine tk (i := 5) (v := ?_) rfl ?_ ?_; rotate_left
 ·(intro wq hSw; (try dsimp only at hSw); have c9 := hSw.cell 9; go_simp); (try with_reducible rfl)
 (try simp only [Act.put, tkS])
 refine tk (i := 6) (v := ?_) rfl ?_ ?_; rotate_left
 ·(intro wq hSw; (try dsimp only at hSw); have c9 := hSw.cell 9; go_simp); (try with_reducible rfl)
 (try simp only [Act.put, tkS])
 refine tk (i := 7) (v := ?_) rfl ?_ ?_; rotate_left
 ·(intro wq hSw; (try dsimp only at hSw); have c9 := hSw.cell 9; go_simp); (try with_reducible rfl)
 (try simp only [Act.put, tkS])
 refine tk (i := 8) (v := ?_) rfl ?_ ?_; rotate_left
 ·(intro wq hSw; (try dsimp only at hSw); have c9 := hSw.cell 9; go_simp); (try with_reducible rfl)
 (try simp only [Act.put, tkS])
 have hvS : VRow (wc.drew) w.heap.size 10 27 (fun i => spV (Z i)) := ⟨H5.out.2.2.2.1.heap⟩
 have q1 := hvS.cell g hg9
 have q2 := hvS.fz g
 refine wpAnyH_ready (rs := [9]) (by kernel_rfl) (by simp) ?_
 refine AllReadyH.cons rfl (fun K hK => ?_) ?_
 rotate_left
 ·exact AllReadyH.nil
 go_simp
 refine hK.out _ _ ?_ (fun hHeld => ?_)
 ·(try dsimp only); exact (hnS.drew).other (by simp) _
 clear hK K
 (try simp only [Act.put, tkS])
 refine wpAnyH_done (by kernel_rfl) ?_ _
 refine NoPanic.normal ?_
 have H6v : VRow wc w.heap.size 10 27 (fun i => spV (Z i)) := ⟨H5.out.2.2.2.1.heap⟩
 have hb6 : Blk (wc.setCell ⟨w.heap.size, g, none⟩ (.complex .f64 (floatOfInt .f64 (p : Int)) (floatOfInt .f64 (j : Int)))).drew w.heap.size (cH Z2) 27 := ⟨by rw [((H6v.set g _).drew).heap, HZ.out.2]; rcases HG.out with rfl | rfl | rfl | rfl | rfl | rfl | rfl | rfl | rfl <;> rfl⟩
 have hK6 : Keeps (fun b => b = w.heap.size) w5 (wc.setCell ⟨w.heap.size, g, none⟩ (.complex .f64 (floatOfInt .f64 (p : Int)) (floatOfInt .f64 (j : Int)))).drew := (HK0.out.setCell (p := ⟨w.heap.size, g, none⟩) rfl _).drew
 have hr6 : VRow (wc.setCell ⟨w.heap.size, g, none⟩ (.complex .f64 (floatOfInt .f64 (p : Int)) (floatOfInt .f64 (j : Int)))).drew (w.heap.size + 1) 10 27 (fun _ => .complex .f64 0 0) := ⟨(((Keeps.refl (fun b => b = w.heap.size) wc).setCell (p := ⟨w.heap.size, g, none⟩) rfl _).drew.block _ H5.out.2.2.2.2.1.lt (by omega)).trans H5.out.2.2.2.2.1.heap⟩
 have hJ6 := HX.out.keeps H5.out.2.1 (hK6.mono (fun i _ e => .inr (by subst e; omega)))
 have hk6 : Keeps (fun b => Mt v b ∨ M2 b) w (wc.setCell ⟨w.heap.size, g, none⟩ (.complex .f64 (floatOfInt .f64 (p : Int)) (floatOfInt .f64 (j : Int)))).drew := H5.out.2.2.1.trans2 hK6 (fun i hi e => by omega)
 have hpre6 := H5.out.1
 clear hK6 hvS H6v q1 q2 hHeld
 generalize hwd : (wc.setCell ⟨w.heap.size, g, none⟩ (.complex .f64 (floatOfInt .f64 (p : Int)) (floatOfInt .f64 (j : Int)))).drew = wd at hb6 hr6 hJ6 hk6 ⊢
 clear hwd hnS
 have k0 : wd.cell? ⟨w.heap.size, 0, none⟩ = some (spV (Z2 0)) := capBlk.at (had := Z2) hb6 0 (by decide)
 have k1 : wd.cell? ⟨w.heap.size, 1, none⟩ = some (spV (Z2 1)) := capBlk.at (had := Z2) hb6 1 (by decide)
 have k2 : wd.cell? ⟨w.heap.size, 2, none⟩ = some (spV (Z2 2)) := capBlk.at (had := Z2) hb6 2 (by decide)
 have k3 : wd.cell? ⟨w.heap.size, 3, none⟩ = some (spV (Z2 3)) := capBlk.at (had := Z2) hb6 3 (by decide)
 have k4 : wd.cell? ⟨w.heap.size, 4, none⟩ = some (spV (Z2 4)) := capBlk.at (had := Z2) hb6 4 (by decide)
 have k5 : wd.cell? ⟨w.heap.size, 5, none⟩ = some (spV (Z2 5)) := capBlk.at (had := Z2) hb6 5 (by decide)
 have k6 : wd.cell? ⟨w.heap.size, 6, none⟩ = some (spV (Z2 6)) := capBlk.at (had := Z2) hb6 6 (by decide)
 have k7 : wd.cell? ⟨w.heap.size, 7, none⟩ = some (spV (Z2 7)) := capBlk.at (had := Z2) hb6 7 (by decide)
 have k8 : wd.cell? ⟨w.heap.size, 8, none⟩ = some (spV (Z2 8)) := capBlk.at (had := Z2) hb6 8 (by decide)
 have k9 : wd.cell? ⟨w.heap.size, 9, none⟩ = some (spV (Z2 9)) := capBlk.at (had := Z2) hb6 9 (by decide)
 clear hb6
 obtain ⟨r0, r1, r2, r3, r4, r5, r6, r7, r8, r9, f0, f1, f2, f3, f4, f5, f6, f7, f8, f9⟩ := hr6.rf10
 obtain ⟨s0, s1, s2, s3, s4, s5, s6, s7, s8, s9⟩ := st10 (w := wd) (b := w.heap.size + 1) hr6 Z2
 have HKS := Lib.hid (kp10 (w := wd) (b := w.heap.size + 1) Z2)
 have HSS := Lib.hid (And.intro s0 (And.intro s1 (And.intro s2 (And.intro s3 (And.intro s4 (And.intro s5 (And.intro s6 (And.intro s7 (And.intro s8 s9)))))))))
 clear hr6 s0 s1 s2 s3 s4 s5 s6 s7 s8 s9
 have HALL := Lib.hid (And.intro hpre6 (And.intro hJ6 hk6))
 clear hpre6 hJ6 hk6
 go_wp2
 obtain ⟨s0, s1, s2, s3, s4, s5, s6, s7, s8, s9⟩ := HSS.out
 first
 | refine bodyPost_ret (v := .agg (cH Z2)) (by simp [results, Tryz.results109, go_sem, s0, s1, s2, s3, s4, s5, s6, s7, s8, s9]) rfl ⟨gs, ?_, HALL.out.1, HX.out.mono (HX.out.keeps HALL.out.2.1 (HKS.out.mono (fun i _ e => .inr (by subst e; omega)))) (fun b hb => .inl hb), HALL.out.2.2.trans2 HKS.out (fun i hi e => by omega)⟩
 | refine bodyPost_ret (v := .agg (cH Z2)) (by simp [results, Tryz.results109, go_sem, s0, s1, s2, s3, s4, s5, s6, s7, s8, s9]) rfl ⟨?_, gs, HALL.out.1, HX.out.mono (HX.out.keeps HALL.out.2.1 (HKS.out.mono (fun i _ e => .inr (by subst e; omega)))) (fun b hb => .inl hb), HALL.out.2.2.trans2 HKS.out (fun i hi e => by omega)⟩
 show Ending.returned (capV Z2) = Ending.returned (capV ((semT s (.group (g : Int) u)).walk p j had))
 rw [HZ.out.1]
theorem walk_group (jx : JX X v s xs B c1 n1 P1 c2 n2 M2 J) (fx : Fx v s xs B P1) (n p j pa : Nat) (N : Int) (u : T) (hn : n < v.n) (hp : p ≤ j) (hj : j ≤ s.length) (ht : Sub (fun i => xs[i]?) (.group N u) n) (hx : xs[n]? = some ⟨7, 0, 0, 0, 0, (pa : Int), 0, 0, 0, N⟩) (la : pa < v.n) (hN : 1 ≤ N ∧ N ≤ 9) (hL : LeaveC X v s M2 J pa u p j) : WalkC X v s M2 J n (.group N u) p j := by
 obtain ⟨g, rfl⟩ := Int.eq_ofNat_of_zero_le (show 0 ≤ N by omega)
 exact walk_g jx fx n p j pa g u hn hp hj (by omega) hx la hL
theorem walk_cat (jx : JX X v s xs B c1 n1 P1 c2 n2 M2 J) (fx : Fx v s xs B P1) (n p j pa pb : Nat) (ta tb : T) (hn : n < v.n) (hp : p ≤ j) (hj : j ≤ s.length) (ht : Sub (fun i => xs[i]?) (.two 4 ta tb) n) (hx : xs[n]? = some ⟨4, 0, 0, 0, 0, (pa : Int), (pb : Int), 0, 0, 0⟩) (la : pa < v.n) (lb : pb < v.n) (hsa : Sub (fun i => xs[i]?) ta pa) (hsb : Sub (fun i => xs[i]?) tb pb) (ha0 : CntOk ta 0) (hb0 : CntOk tb 0)
  (hA : EndsC X v s B M2 J pa ta p) (hBe : ∀ k, p ≤ k → k ≤ j → EndsC X v s B M2 J pb tb k)
  (hLv : ∀ (had : Cp) (E : Nat → Prop) (es : List Lit) (w : World), CapOk s.length had → J E es w → (∀ b, E b → b < w.heap.size) → Calls Tryz.prog 150 #[.pointer (some ⟨X, 0, none⟩), .int .i64 pa, .int .i64 pb, .int .i64 p, capV had] w fun e w' => ∃ (K : FuncId) (cap : Array Value), e = .returned (.func (.func K) #[] cap) ∧ (∀ S, Keeps S w w') ∧ ∀ k, p ≤ k → k ≤ s.length → LeftC v M2 J K cap k (leftS (semT s ta) (semT s tb).asked p had k) E es w')
  (hLa : ∀ k, p ≤ k → k ≤ j → LeaveC X v s M2 J pa ta p k) (hLb : ∀ k, p ≤ k → k ≤ j → LeaveC X v s M2 J pb tb k j) : WalkC X v s M2 J n (.two 4 ta tb) p j :=
 walk_via_both jx fx n p j pa pb ta tb hn hp hj hx (both_c jx fx p j pa pb ta tb hp hj la lb ha0 hb0 (fx.ok pa ta la hsa).2.1 (fx.ok pb tb lb hsb).2.1 hA hBe hLv hLa hLb)
theorem walk_times (jx : JX X v s xs B c1 n1 P1 c2 n2 M2 J) (fx : Fx v s xs B P1) (n p j q : Nat) (m M : Int) (u : T) (hn : n < v.n) (hp : p ≤ j) (hj : j ≤ s.length) (ht : Sub (fun i => xs[i]?) (.times m M u) n) (hx : xs[n]? = some ⟨6, 0, 0, 0, 0, (q : Int), 0, m, M, 0⟩) (lq : q < v.n) (hq : Sub (fun i => xs[i]?) u q) (hc : isCnt m M = true) (hbt : u.isBytes = none) (ha0 : CntOk u 0)
  (hEa : ∀ a, p ≤ a → a ≤ j → EndsC X v s B M2 J q u a) (hEn : ∀ k, p ≤ k → k ≤ j → EndsC X v s B M2 J n (.times m M u) k)
  (hLv : ∀ a, p ≤ a → a ≤ j → ∀ (had : Cp) (E : Nat → Prop) (es : List Lit) (w : World), CapOk s.length had → J E es w → (∀ b, E b → b < w.heap.size) → Calls Tryz.prog 150 #[.pointer (some ⟨X, 0, none⟩), .int .i64 q, .int .i64 n, .int .i64 a, capV had] w fun e w' => ∃ (K : FuncId) (cap : Array Value), e = .returned (.func (.func K) #[] cap) ∧ (∀ S, Keeps S w w') ∧ ∀ k, a ≤ k → k ≤ s.length → LeftC v M2 J K cap k (leftS (semT s u) (semT s u).asked a had k) E es w')
  (hLe : ∀ a b, p ≤ a → a ≤ b → b ≤ j → LeaveC X v s M2 J q u a b) : WalkC X v s M2 J n (.times m M u) p j :=
 walk_via_rep jx fx n p j q m M u hn hp hj hx (rep_c jx fx n p j q m M u hn hp hj hx lq hc hbt ha0 (fx.ok q u lq hq).2.1 hEa hEn hLv hLe)
end
end Go.Proofs.YtgllmhheahlpjaaGreatDoor
namespace Go.Proofs.YtgllmhheahlpjaaGreatDoor
open Go.RowKit Go.Maps Go.WideMaps
theorem cnt0 {t : T} (h : t.Lok) : CntOk t 0 := by
 unfold CntOk
 split
 ·rename_i m M u
  have := cnt_ok h.1
  split
  ·show ((0 : Nat) : Int) ≤ m; omega
  ·rename_i hM
   show ((0 : Nat) : Int) ≤ M
   rcases this.2.1 with q | q
   ·exact absurd q hM
   ·omega
 ·trivial
section
variable {X : Nat} {v : TrV} {s : List UInt8} {xs : List Nd} {B : Nat} {c1 : Lit → Nat} {n1 : Nat} {P1 : Lit → Prop} {c2 : Lit → Nat} {n2 : Nat} {M2 : Nat → Prop} {J : (Nat → Prop) → List Lit → World → Prop}
def TNodeC (X : Nat) (v : TrV) (s : List UInt8) (B : Nat) (M2 : Nat → Prop) (J : (Nat → Prop) → List Lit → World → Prop) (n : Nat) (t : T) : Prop :=
 (∀ p, p ≤ s.length → FillC X v s B M2 J 138 n t p) ∧ ∀ p j, p ≤ j → j ≤ s.length → LeaveC X v s M2 J n t p j
theorem times_one (jx : JX X v s xs B c1 n1 P1 c2 n2 M2 J) (fx : Fx v s xs B P1)
  (hgo : ∀ (n k : Nat) (t : T), n < v.n → k ≤ s.length → Sub (fun i => xs[i]?) t n → FillC X v s B M2 J 120 n t k → GoC X v s B M2 J n t k)
  (n p q : Nat) (m M : Int) (u : T) (hn : n < v.n) (hp : p ≤ s.length) (ht : Sub (fun i => xs[i]?) (.times m M u) n) (hx : xs[n]? = some ⟨6, 0, 0, 0, 0, (q : Int), 0, m, M, 0⟩) (hq : Sub (fun i => xs[i]?) u q) (lq : q < v.n) (hc : isCnt m M = true) (hbt : u.isBytes = none) (Nq : TNodeC X v s B M2 J q u)
  (hk : ∀ k, p < k → k ≤ s.length → FillC X v s B M2 J 138 n (.times m M u) k) : FillC X v s B M2 J 138 n (.times m M u) p :=
 reach_agn jx fx n p q m M u hn hp ht hx hbt (again_c jx fx n p q m M u hn hp hx (cnt_bd hc).1 (cnt_bd hc).2.1 hbt (cnt0 hq.1) (fx.ok q u lq hq).2.1 (ends_any jx fx q p u lq hp hq (Nq.1 p hp))
  (fun k h1 h2 => hgo n k _ hn h2 ht (add_c jx fx n k _ hn h2 ht (hk k h1 h2)))
  (fun had E es w hcap hJ hEb => by
   have := leaver_c jx fx q n p u (.times m M u) lq hn hq ht (fun k h3 h4 => Nq.2 p k h3 h4) had E es w hcap hJ hEb
   exact this))
theorem isbytes_leaf {u : T} {F : Nat → Bool} (h : u.isBytes = some F) : ∃ y : Nd, u = .leaf y ∧ y.kind = 1 ∧ F = y.set := by
 cases u with
 | leaf y =>
  change (if y.kind = 1 then some y.set else none) = some F at h
  by_cases hk : y.kind = 1
  ·rw [if_pos hk] at h; exact ⟨y, rfl, hk, (Option.some.inj h).symm⟩
  ·rw [if_neg hk] at h; cases h
 | two _ _ _ => cases h
 | times _ _ _ => cases h
 | group _ _ => cases h
theorem noG_of {G : Gs} (h : ∀ g, G g = false) : noG G = true := noG_iff.2 fun g _ => h g
theorem trial_one (jx : JX X v s xs B c1 n1 P1 c2 n2 M2 J) (fx : Fx v s xs B P1)
  (hany : ∀ (i : Nat) (x : Nd), xs[i]? = some x → x.kind = -1 → x = anyNd)
  (hgo : ∀ (n k : Nat) (t : T), n < v.n → k ≤ s.length → Sub (fun i => xs[i]?) t n → FillC X v s B M2 J 120 n t k → GoC X v s B M2 J n t k)
  (hleaf : ∀ (i p : Nat) (x : Nd) (had : Cp) (w : World), xs[i]? = some x → (x.kind = 0 ∨ x.kind = 1 ∨ x.kind = 2 ∨ x.kind = 3 ∨ (x.kind = 8 ∧ 1 ≤ x.n ∧ x.n ≤ 9)) → p ≤ s.length → CapOk s.length had → TrAt w X v s → Calls Tryz.prog 155 #[.pointer (some ⟨X, 0, none⟩), ndV x, .int .i64 p, capV had] w (LeafOut (leafE s x p had) w))
  (n : Nat) (hn : n < v.n) (t : T) (ht : Sub (fun i => xs[i]?) t n) (ih : ∀ m, m < n → ∀ u, Sub (fun i => xs[i]?) u m → TNodeC X v s B M2 J m u) : TNodeC X v s B M2 J n t := by
 have hE : ∀ (m : Nat) (u : T), Sub (fun i => xs[i]?) u m → m < v.n → (∀ p, p ≤ s.length → FillC X v s B M2 J 138 m u p) → ∀ p, p ≤ s.length → EndsC X v s B M2 J m u p :=
  fun m u hu hm hf p hp => ends_any jx fx m p u hm hp hu (hf p hp)
 have hAd : ∀ (m : Nat) (u : T), Sub (fun i => xs[i]?) u m → m < v.n → (∀ p, p ≤ s.length → FillC X v s B M2 J 138 m u p) → ∀ p, p ≤ s.length → FillC X v s B M2 J 120 m u p :=
  fun m u hu hm hf p hp => add_c jx fx m p u hm hp hu (hf p hp)
 have hR : ∀ p, p ≤ s.length → FillC X v s B M2 J 138 n t p := by
  cases t with
  | leaf x =>
   intro p hp
   have hx := ht.leaf
   rcases ht.1 with q | q
   ·obtain rfl := hany n x hx q
    exact reach_anything jx fx n p hn hp hx
   ·exact reach_leaf jx fx n p x hn hp ht hx (q.imp id (Or.imp id (Or.imp id (Or.imp id (fun r => r.1))))) (fun had w hc htr => hleaf n p x had w hx q hp hc htr)
  | two k a b =>
   intro p hp
   obtain ⟨pa, pb, hx, ha, hb, la, lb, hk⟩ := ht.two
   have Na := ih pa la a ha
   have Nb := ih pb lb b hb
   rcases hk with rfl | rfl
   ·exact reach_cat jx fx n p pa pb a b hn hp hx (cnt0 ha.1) (cnt0 hb.1) (fx.ok pa a (by omega) ha).2.1 (hE pa a ha (by omega) Na.1 p hp)
     (fun k h1 h2 => hgo pb k b (by omega) h2 hb (hAd pb b hb (by omega) Nb.1 k h2))
     (fun had E es w hc hJ hEb => leaver_c jx fx pa pb p a b (by omega) (by omega) ha hb (fun k h1 h2 => Na.2 p k h1 h2) had E es w hc hJ hEb)
   ·exact reach_alt jx fx n p pa pb a b hn hp hx (cnt0 ha.1) (cnt0 hb.1) (hAd pa a ha (by omega) Na.1 p hp) (hAd pb b hb (by omega) Nb.1 p hp)
  | times m M u =>
   obtain ⟨q, hx, hq, lq, hc⟩ := ht.times
   have Nq := ih q lq u hq
   have hcc := cnt_bd hc
   cases hbt : u.isBytes with
   | some F =>
    obtain ⟨y, rfl, hy1, rfl⟩ := isbytes_leaf hbt
    exact fun p hp => reach_run jx fx n p q m M _ y hn hp ht hx (by omega) hq.leaf hcc.1 hbt
   | none =>
    have hall : ∀ (d p : Nat), p ≤ s.length → s.length ≤ p + d → FillC X v s B M2 J 138 n (.times m M u) p := by
     intro d
     induction d with
     | zero => exact fun p hp hd => times_one jx fx hgo n p q m M u hn hp ht hx hq (by omega) hc hbt Nq (fun k h1 h2 => by omega)
     | succ d ihd => exact fun p hp hd => times_one jx fx hgo n p q m M u hn hp ht hx hq (by omega) hc hbt Nq (fun k h1 h2 => ihd k h2 (by omega))
    exact fun p hp => hall s.length p hp (by omega)
  | group N u =>
   intro p hp
   obtain ⟨pa, hx, ha, la, h1, h9⟩ := ht.group
   have Na := ih pa la u ha
   exact reach_group jx fx n p pa N u hn hp hx (cnt0 ha.1) (hAd pa u ha (by omega) Na.1 p hp)
 refine ⟨hR, fun p j hp hj => ?_⟩
 cases hev : noG (semT s t).ever with
 | true => exact leave_none jx fx n p j t hn ht hev
 | false =>
  refine leave_kept jx fx n p j t hn hp hj ht hev ?_
  cases t with
  | leaf x =>
   have e : noG (semT s (.leaf x)).ever = true := noG_of (fun g => rfl)
   rw [e] at hev; cases hev
  | two k a b =>
   obtain ⟨pa, pb, hx, ha, hb, la, lb, hk⟩ := ht.two
   have Na := ih pa la a ha
   have Nb := ih pb lb b hb
   rcases hk with rfl | rfl
   ·exact walk_cat jx fx n p j pa pb a b hn hp hj ht hx (by omega) (by omega) ha hb (cnt0 ha.1) (cnt0 hb.1) (hE pa a ha (by omega) Na.1 p (by omega))
     (fun k h1 h2 => hE pb b hb (by omega) Nb.1 k (by omega))
     (fun had E es w hc hJ hEb => leaver_c jx fx pa pb p a b (by omega) (by omega) ha hb (fun k h1 h2 => Na.2 p k h1 h2) had E es w hc hJ hEb)
     (fun k h1 h2 => Na.2 p k h1 (by omega)) (fun k h1 h2 => Nb.2 k j h2 hj)
   ·exact walk_alt jx fx n p j pa pb a b hn hp hj ht hx (by omega) (by omega) ha hb (cnt0 ha.1) (hE pa a ha (by omega) Na.1 p (by omega)) (Na.2 p j hp hj) (Nb.2 p j hp hj)
  | times m M u =>
   obtain ⟨q, hx, hq, lq, hc⟩ := ht.times
   have Nq := ih q lq u hq
   cases hbt : u.isBytes with
   | some F =>
    obtain ⟨y, rfl, hy1, rfl⟩ := isbytes_leaf hbt
    have e : noG (semT s (.times m M (.leaf y))).ever = true := noG_of (fun g => rfl)
    rw [e] at hev; cases hev
   | none =>
    exact walk_times jx fx n p j q m M u hn hp hj ht hx (by omega) hq hc hbt (cnt0 hq.1) (fun a h1 h2 => hE q u hq (by omega) Nq.1 a (by omega)) (fun k h1 h2 => hE n _ ht hn hR k (by omega))
     (fun a h1 h2 had E es w hcap hJ hEb => leaver_c jx fx q n a u _ (by omega) hn hq ht (fun k h3 h4 => Nq.2 a k h3 h4) had E es w hcap hJ hEb)
     (fun a b h1 h2 h3 => Nq.2 a b h2 (by omega))
  | group N u =>
   obtain ⟨pa, hx, ha, la, h1, h9⟩ := ht.group
   have Na := ih pa la u ha
   exact walk_group jx fx n p j pa N u hn hp hj ht hx (by omega) ⟨h1, h9⟩ (Na.2 p j hp hj)
theorem trial_all (jx : JX X v s xs B c1 n1 P1 c2 n2 M2 J) (fx : Fx v s xs B P1)
  (hany : ∀ (i : Nat) (x : Nd), xs[i]? = some x → x.kind = -1 → x = anyNd)
  (hgo : ∀ (n k : Nat) (t : T), n < v.n → k ≤ s.length → Sub (fun i => xs[i]?) t n → FillC X v s B M2 J 120 n t k → GoC X v s B M2 J n t k)
  (hleaf : ∀ (i p : Nat) (x : Nd) (had : Cp) (w : World), xs[i]? = some x → (x.kind = 0 ∨ x.kind = 1 ∨ x.kind = 2 ∨ x.kind = 3 ∨ (x.kind = 8 ∧ 1 ≤ x.n ∧ x.n ≤ 9)) → p ≤ s.length → CapOk s.length had → TrAt w X v s → Calls Tryz.prog 155 #[.pointer (some ⟨X, 0, none⟩), ndV x, .int .i64 p, capV had] w (LeafOut (leafE s x p had) w)) :
  ∀ (K n : Nat), n ≤ K → n < v.n → ∀ t, Sub (fun i => xs[i]?) t n → TNodeC X v s B M2 J n t := by
 intro K
 induction K with
 | zero => exact fun n hK hn t ht => trial_one jx fx hany hgo hleaf n hn t ht (fun m hm => by omega)
 | succ K ih => exact fun n hK hn t ht => trial_one jx fx hany hgo hleaf n hn t ht (fun m hm u hu => ih m (by omega) (by omega) u hu)
end
end Go.Proofs.YtgllmhheahlpjaaGreatDoor
namespace Go.Proofs.YtgllmhheahlpjaaGreatDoor
open Go.RowKit Go.Proofs.YtgllmhheahlpjaaGreatDoor.Fl
theorem len_none (w : World) : Calls Tryz.prog 38 #[spV none] w fun e w' => e = .returned (.int .i64 0) ∧ w' = w := by
 refine (len_no NEGB NEGB w (by unfold sp; rw [val_neg]; rfl)).mono ?_
 rintro e w' ⟨h1, h2⟩; exact ⟨h1, h2.symm⟩
theorem len_some (a b : Nat) (h1 : a ≤ b) (h2 : b ≤ 999999999) (w : World) : Calls Tryz.prog 38 #[spV (some (a, b))] w fun e w' => e = .returned (.int .i64 ((b - a : Nat) : Int)) ∧ w' = w := by
 refine (len_yes (floatOfInt .f64 (a : Int)) (floatOfInt .f64 (b : Int)) a b w (span_some a b h1 h2)).mono ?_
 rintro e w' ⟨h3, h4⟩
 exact ⟨by rw [h3]; congr 2; omega, h4.symm⟩
theorem may_none (w : World) : Calls Tryz.prog 60 #[spV none] w fun e w' => e = .returned (.bool false) ∧ w' = w := may_sp none (fun a b h => by cases h) w
theorem may_some (a b : Nat) (h1 : a ≤ b) (h2 : b ≤ 999999999) (w : World) : Calls Tryz.prog 60 #[spV (some (a, b))] w fun e w' => e = .returned (.bool true) ∧ w' = w := may_sp (some (a, b)) (fun a' b' h => by cases h; exact ⟨h1, h2⟩) w
theorem drop_str (s : List UInt8) (p : Nat) (hp : p ≤ s.length) (W : World) : (Instr.slice 9 (.string ⟨s.toArray⟩) (some (.int .i64 (p : Int))) none none).run Tryz.prog W = .ok (.string ⟨(s.drop p).toArray⟩) W := by
 have hsz : (⟨s.toArray⟩ : ByteArray).size = s.length := by simp [ByteArray.size]
 have e : (⟨s.toArray⟩ : ByteArray).extract (p : Int).toNat (⟨s.toArray⟩ : ByteArray).size = ⟨(s.drop p).toArray⟩ := by
  apply ByteArray.ext
  apply Array.ext'
  simp only [ByteArray.data_extract, Array.toList_extract, Int.toNat_natCast, List.extract_eq_take_drop]
  rw [List.take_of_length_le (by simp [ByteArray.size])]
 rw [run_slice_string_from_if (P := Tryz.prog) W 9 _ .i64 (p : Int) Tryz.underlying9, if_pos ⟨by omega, by rw [hsz]; omega⟩, e]
theorem leaf_ref (X p g : Nat) (v : TrV) (s : List UInt8) (w0 w1 w2 w3 : Nat) (xa xb m M : Int) (hg : 1 ≤ g ∧ g ≤ 9) (hp : p ≤ s.length) (hs : s.length ≤ 999999999) (had : Cp) (hc : CapOk s.length had) (w : World) (h : TrAt w X v s) :
  Calls Tryz.prog 155 #[.pointer (some ⟨X, 0, none⟩), ndV ⟨8, w0, w1, w2, w3, xa, xb, m, M, (g : Int)⟩, .int .i64 p, capV had] w (LeafOut (leafE s ⟨8, w0, w1, w2, w3, xa, xb, m, M, (g : Int)⟩ p had) w) := by
 have q1 := h.c1
 have lX := h.lt
 clear h
 unfold ndV capV
 simp only
 obtain ⟨o, ho⟩ : ∃ o, o = leafE s ⟨8, w0, w1, w2, w3, xa, xb, m, M, (g : Int)⟩ p had := ⟨_, rfl⟩
 have ho2 : o = (match had g with
  | none => none
  | some (a, b) => if ((s.drop a).take (b - a)).isPrefixOf (s.drop p) then some (b - a) else none) := ho
 rw [← ho]
 clear ho
 obtain ⟨og, hog⟩ : ∃ og, og = had g := ⟨_, rfl⟩
 rw [← hog] at ho2
 have hok : ∀ a b, og = some (a, b) → a ≤ b ∧ b ≤ s.length := fun a b e => hc g a b (by rw [← hog]; exact e)
 have hbe : ∀ o1 o2, Below w.heap.size w ((w.alloc o1).alloc o2) := fun _ _ => ((Below.refl _ w).alloc (Nat.le_refl _) _).alloc (by simp) _
 have HBE := Lib.hid hbe
 have hcell : had g = og := hog.symm
 clear hbe hc hog
 cases og with
 | none =>
  have HLn := Lib.hid len_none
  have HMy := Lib.hid may_none
  have ho3 : o = none := ho2
  subst ho3
  clear ho2 hok
  go_enter Tryz.func155, Tryz.ntmps155
  rcases (by omega : g = 1 ∨ g = 2 ∨ g = 3 ∨ g = 4 ∨ g = 5 ∨ g = 6 ∨ g = 7 ∨ g = 8 ∨ g = 9) with rfl | rfl | rfl | rfl | rfl | rfl | rfl | rfl | rfl <;>
  ·rw [hcell]
   go_wp2_with fail
   go_quiet (first | with_reducible exact Calls.quiet_of_same (HLn.out _) | with_reducible exact Calls.quiet_of_same (HMy.out _))
   go_wp2
   go_ret2
   exact ⟨⟨0, rfl, fun k h => by cases h⟩, Go.below_drewN (HBE.out _ _) _⟩
 | some ab =>
  obtain ⟨a, b⟩ := ab
  obtain ⟨hab, hbs⟩ := hok a b rfl
  have HLn := Lib.hid (len_some a b hab (by omega))
  have HMy := Lib.hid (may_some a b hab (by omega))
  obtain ⟨R, hR⟩ : ∃ R : ByteArray, R = ⟨(s.drop p).toArray⟩ := ⟨_, rfl⟩
  obtain ⟨D, hD⟩ : ∃ D : ByteArray, D = ⟨((s.drop a).take (b - a)).toArray⟩ := ⟨_, rfl⟩
  have hsl := drop_str s p hp
  rw [← hR] at hsl
  have hct := fun w => cut_sp s hs (some (a, b)) (fun a' b' h => by cases h; exact ⟨hab, hbs⟩) w
  rw [show (⟨(cutO s (some (a, b))).toArray⟩ : ByteArray) = D from hD.symm] at hct
  have hpf := fun w => Tryz.strings_HasPrefix R D w
  obtain ⟨r, hr⟩ : ∃ r, r = ((s.drop a).take (b - a)).isPrefixOf (s.drop p) := ⟨_, rfl⟩
  rw [show Lib.hasPrefix R.data.toList D.data.toList = r by rw [hR, hD, hr]; rfl] at hpf
  have HCT := Lib.hid hct
  have HPF := Lib.hid hpf
  have ho3 : o = if r = true then some (b - a) else none := by rw [ho2, hr]
  have HO3 := Lib.hid ho3
  clear ho2 hok hct hpf hR hD hr ho3
  go_enter Tryz.func155, Tryz.ntmps155
  rcases (by omega : g = 1 ∨ g = 2 ∨ g = 3 ∨ g = 4 ∨ g = 5 ∨ g = 6 ∨ g = 7 ∨ g = 8 ∨ g = 9) with rfl | rfl | rfl | rfl | rfl | rfl | rfl | rfl | rfl <;>
  ·rw [hcell]
   go_wp2_with fail
   go_quiet (first | with_reducible exact Calls.quiet_of_same (HLn.out _) | with_reducible exact Calls.quiet_of_same (HMy.out _) | with_reducible exact Calls.quiet_of_same (HCT.out _) | with_reducible exact Calls.quiet_of_same (HPF.out _))
   go_wp2
   go_ret2
   cases r with
   | true => exact ⟨⟨((b - a : Nat) : Int), by rw [HO3.out]; rfl, fun k h => by rw [HO3.out] at h; cases h; rfl⟩, Go.below_drewN (HBE.out _ _) _⟩
   | false => exact ⟨⟨((b - a : Nat) : Int), by rw [HO3.out]; rfl, fun k h => by rw [HO3.out] at h; cases h⟩, Go.below_drewN (HBE.out _ _) _⟩
end Go.Proofs.YtgllmhheahlpjaaGreatDoor
