/- A trial: whole, where it fits. -/
import Derived.Test.YtjgegohidhdbpaaGreatDoorJMdB
import Derived.Test.YtjgegohidhdbpaaGreatDoorJMbJ
import Derived.Deep.CutBlock
import Derived.Test.YtjgegohidhdbpaaGreatDoorJMbO
open Go.Proofs.Tryz
set_option linter.unusedVariables false
set_option linter.unusedSimpArgs false
set_option maxRecDepth 100000
set_option maxHeartbeats 40000000
namespace Go.Proofs.YtjgegohidhdbpaaGreatDoor
open Go.RowKit Go.Maps Go.WideMaps
section
variable {X : Nat} {v : kU} {s : List UInt8} {t : T} {M2 : Nat → Prop} {J : (Nat → Prop) → List Lit → World → Prop}
theorem Yu (tr : K6 X v s t M2 J) (i j : Nat) (kh : i ≤ j) (hj : j ≤ s.length) (kz : (qd s t).ends i 0 kY j = true) (E : Nat → Prop) (es : List Lit) (w : World) (hJ : J E es w) (hE : ∀ b, E b → b < w.heap.size) :
  Calls prog 35 #[.pointer (some ⟨X, 0, none⟩), .int .i64 i, .int .i64 j] w fun e w' => ∃ fs : List Lit, e = .returned (.tuple #[qk (jO s t i j), .bool true]) ∧ es <+: fs ∧ J E fs w' ∧ qb (fun b => Mt v b ∨ M2 b) w w' := by
 have jp := tr.sl
 have hJ1 : J (fun b => E b ∨ b = w.heap.size) es (w.alloc (.cells cZ 27)) := tr.mono (tr.keeps (tr.fresh hJ) (((qb.refl _ w)).alloc _)) (fun b hb => hb.imp id (fun e => by omega))
 have VI : ∀ b, (E b ∨ b = w.heap.size) → b < (w.alloc (.cells cZ 27)).heap.size := fun b hb => by
  rw [World.size_alloc]
  rcases hb with hb | hb
  ·have := hE b hb; omega
  ·omega
 have Jk : qm (w.alloc (.cells cZ 27)) w.heap.size 10 27 (fun _ => .complex .f64 0 0) := qm.new w 10 27 (fun _ => .complex .f64 0 0)
 have zO : qb (fun b => Mt v b ∨ M2 b) w (w.alloc (.cells cZ 27)) := (qb.refl _ w).alloc _
 have ko := ξ tr
 have HN := ξ (fun w => yS w)
 have yJ := qaA tr i (by omega) _ es _ hJ1 VI
 have qt := ξ yJ
 have HK1 := ξ zO
 have kD := ξ kz
 have Ub := tr.lt hJ
 have HLT := ξ Ub
 have zb : ¬ (j : Int) < (i : Int) := by omega
 have HE0 := ξ hE
 have hn := tr.n
 have Zl : 1 ≤ v.n := by have := t.size_pos; omega
 have XJ := tr.n2
 have WO : IntKind.i64.wrap ((v.n : Int) - 1) = ((t.size - 1 : Nat) : Int) := by rw [show (v.n : Int) - 1 = ((t.size - 1 : Nat) : Int) by omega]; simp [IntKind.wrap, IntKind.signed, IntKind.bits]; omega
 have HNN := ξ WO
 have HCN : Hid (qo s.length kY) := ξ (fun g a b e => by cases e)
 obtain ⟨Z, hZ⟩ : ∃ Z, Z = (qd s t).leave i j kY := ⟨_, rfl⟩
 have HZ := ξ (ζ hZ trivial)
 clear tr hJ hE hJ1 zO yJ kz Ub VI hn WO hZ
 go_enter func35, ntmps35
 go_wp2_with fail
 refine qt.out.mono ?_
 rintro e w2 ⟨b, fs, rfl, qv, hb, hbm, qJ, vV, qH⟩
 have QQ := ξ (Ys b (s.length / 64 + 1) (s.length / 64 + 1) j _ (by omega) (by omega) w2 qv)
 have qbB : qm w2 w.heap.size 10 27 (fun _ => .complex .f64 0 0) := ⟨(qH.block _ Jk.lt (fun e => by have := HLT.out _ e; omega)).trans Jk.heap⟩
 have H2 := ξ (ζ qJ (ζ vV (HK1.out.trans qH)))
 clear qv hb hbm qJ vV qH qt Jk
 unfold PV
 go_wp2_with fail
 refine QQ.out.mono ?_
 rintro e w3 ⟨rfl, rfl⟩
 clear QQ
 rw [kD.out]
 have lw3 : w.heap.size < w3.heap.size := qbB.lt
 have HE1 : Hid (∀ b, (E b ∨ b = w.heap.size) → b < w3.heap.size) := ξ (fun b hb => by
  rcases hb with hb | hb
  ·have := HE0.out b hb; omega
  ·omega)
 have H3 := ξ (ko.out.tr H2.out.2.1).heap
 have HLT3 : Hid (∀ b, (Mt v b ∨ M2 b) → b < w3.heap.size) := ξ (fun b hb => ko.out.lt H2.out.2.1 b hb)
 go_upto_region 3 with fail
 go_cut [8] from 21 (fun pv wx => ∃ (B8 : Nat) (gs : List Lit), pv = .pointer (some ⟨B8, 0, none⟩) ∧ w.heap.size < B8 ∧ fs <+: gs ∧ J (fun b => (E b ∨ b = w.heap.size) ∨ b = B8) gs wx ∧ qb (fun b => Mt v b ∨ M2 b) w3 wx ∧ zG wx B8 (cH Z) 27)
 case first =>
  go_wp2_with fail
  refine wp_region_noPanic ?_
  refine wp_region_held_drew (S := fun w' => km w' X v s) (by kernel_rfl) ?_ (fun qe => ?_)
  ·(try dsimp only); exact ⟨H3.out⟩
  refine tq 0 ?_ (hy := by (intro wq qi; have x0 := qi.c0; go_simp); (try rfl))
  refine tq 1 ?_ (hy := by (intro wq qi; have x0 := qi.c0; go_simp); (try rfl))
  refine tq 2 ?_ (hy := by (intro wq qi; have x0 := qi.c0; go_simp); (try rfl))
  refine tq 3 ?_ (hy := by (intro wq qi; have x0 := qi.c0; go_simp); (try rfl))
  refine tq 4 ?_ (hy := by (intro wq qi; have x0 := qi.c0; go_simp); (try rfl))
  refine tq 5 ?_ (hy := by (intro wq qi; have x0 := qi.c0; go_simp); (try rfl))
  refine tq 6 ?_ (hy := by (intro wq qi; have x0 := qi.c0; go_simp); (try rfl))
  refine tq 7 ?_ (hy := by (intro wq qi; have x0 := qi.c0; go_simp); (try rfl))
  refine tq 8 ?_ (hy := by (intro wq qi; have x0 := qi.c0; go_simp); (try rfl))
  refine wpAnyH_ready (rs := [9, 11]) (by kernel_rfl) (by simp) ?_
  refine AllReadyH.cons rfl (fun K hK => ?_) (AllReadyH.cons rfl (fun K hK => ?_) AllReadyH.nil)
  ·go_simp
   refine (HN.out _).mono ?_
   rintro e wn ⟨rfl, jG⟩
   have WK : ∀ S, qb S w3 wn := fun S => (qb.refl S w3).drew.trans (qb.of_below jG)
   have hJn := ko.out.keeps H2.out.2.1 (WK _)
   have ln := (WK (fun _ => False)).size
   clear jG
   refine hK.out _ _ ?_ (fun qe => ?_)
   ·(try dsimp only); exact ko.out.tr hJn
   clear hK K
   (try simp only [Act.put, zm])
   refine wpAnyH_ready (rs := [10, 11]) (by kernel_rfl) (by simp) ?_
   refine AllReadyH.cons rfl (fun K hK => ?_) (AllReadyH.cons rfl (fun K hK => ?_) AllReadyH.nil)
   ·go_simp
    have qh := ko.out.leave i j kh hj kY (fun b => E b ∨ b = w.heap.size) fs wn HCN.out hJn (fun b hb => Nat.lt_of_lt_of_le (HE1.out b hb) ln)
    rw [← HZ.out.1, ← HNN.out] at qh
    refine qh.mono ?_
    rintro e wl ⟨gs, rfl, UB, hJl, jl⟩
    clear qh
    unfold qk
    have Qv : qb (fun b => Mt v b ∨ M2 b) w3 (wl.alloc (.cells cZ 27)) := ((WK _).trans jl).alloc _
    have Vf : qm (wl.alloc (.cells cZ 27)) wl.heap.size 10 27 (fun _ => .complex .f64 0 0) := qm.new wl 10 27 (fun _ => .complex .f64 0 0)
    have ZI : J (fun b => (E b ∨ b = w.heap.size) ∨ b = wl.heap.size) gs (wl.alloc (.cells cZ 27)) := ko.out.mono (ko.out.keeps (ko.out.fresh hJl) ((qb.refl _ wl).alloc _)) (fun b hb => hb.imp id (fun e => by omega))
    have l9 : w3.heap.size ≤ wl.heap.size := by have := jl.size; omega
    have l8 : w.heap.size < wl.heap.size := by omega
    refine hK.out _ _ ?_ (fun qe => ?_)
    ·(try dsimp only); exact ko.out.tr hJl
    clear hK K
    (try simp only [Act.put, zm])
    refine zU 11 fun K hK => ?_
    go_simp
    refine hK.out _ _ ?_ (fun qe => ?_)
    ·(try dsimp only); exact ko.out.tr ZI
    clear hK K
    (try simp only [Act.put, zm])
    generalize hwm : wl.alloc (.cells cZ 27) = wm at Qv Vf ZI ⊢
    clear hwm
    have hbz := yC Vf Z
    have r_ := Vf.rf10
    have zI := ξ (kn (w := wm) (b := wl.heap.size) Z)
    have za := ξ (qV (w := wm) (b := wl.heap.size) Vf Z)
    clear Vf
    have Qc := zI.out
    have VR := ko.out.keeps ZI (Qc.mono (fun i _ e => .inr e))
    have H9 := ξ (ζ UB (ζ VR (ζ (Qv.trans2 Qc (fun i hi e => absurd e (by omega))) hbz)))
    clear UB VR Qv hbz Qc ZI
    refine zU 12 fun K hK => ?_
    go_simp
    refine hK.out _ _ ?_ (fun qe => ?_)
    ·(try dsimp only); exact ko.out.tr H9.out.2.1
    clear hK K
    (try simp only [Act.put, zm])
    refine wpAnyH_done (by kernel_rfl) ?_ _
    refine NoPanic.normal ?_
    go_step
    go_step
    go_meet
    exact ⟨wl.heap.size, gs, rfl, l8, H9.out.1, H9.out.2.1, H9.out.2.2.1, H9.out.2.2.2⟩
   ·go_simp
    have qgC : J (fun b => (E b ∨ b = w.heap.size) ∨ b = wn.heap.size) fs (wn.alloc (.cells cZ 27)) := ko.out.mono (ko.out.keeps (ko.out.fresh hJn) ((qb.refl _ wn).alloc _)) (fun b hb => hb.imp id (fun e => by omega))
    refine hK.out _ _ ?_ (fun qe => ?_)
    ·(try dsimp only); exact ko.out.tr qgC
    clear hK K
    (try simp only [Act.put, zm])
    refine zU 10 fun K hK => ?_
    go_simp
    have qh := ko.out.leave i j kh hj kY (fun b => (E b ∨ b = w.heap.size) ∨ b = wn.heap.size) fs (wn.alloc (.cells cZ 27)) HCN.out qgC (fun b hb => by rw [World.size_alloc]; exact hb.elim (fun q => Nat.lt_succ_of_lt (Nat.lt_of_lt_of_le (HE1.out b q) ln)) (fun q => q ▸ Nat.lt_succ_self _))
    rw [← HZ.out.1, ← HNN.out] at qh
    refine qh.mono ?_
    rintro e wl ⟨gs, rfl, UB, hJl, jl⟩
    clear qh
    unfold qk
    have Qv : qb (fun b => Mt v b ∨ M2 b) w3 wl := ((WK _).alloc _).trans jl
    have Vf : qm wl wn.heap.size 10 27 (fun _ => .complex .f64 0 0) := ⟨(jl.block _ (by simp) (fun e => by have := HLT3.out _ e; omega)).trans (qm.new wn 10 27 (fun _ => .complex .f64 0 0)).heap⟩
    have ZI := hJl
    have l8 : w.heap.size < wn.heap.size := by omega
    have l9 : w3.heap.size ≤ wn.heap.size := ln
    refine hK.out _ _ ?_ (fun qe => ?_)
    ·(try dsimp only); exact ko.out.tr hJl
    clear hK K
    (try simp only [Act.put, zm])
    have hbz := yC Vf Z
    have r_ := Vf.rf10
    have zI := ξ (kn (w := wl) (b := wn.heap.size) Z)
    have za := ξ (qV (w := wl) (b := wn.heap.size) Vf Z)
    clear Vf
    have Qc := zI.out
    have VR := ko.out.keeps ZI (Qc.mono (fun i _ e => .inr e))
    have H9 := ξ (ζ UB (ζ VR (ζ (Qv.trans2 Qc (fun i hi e => absurd e (by omega))) hbz)))
    clear UB VR Qv hbz Qc ZI
    refine zU 12 fun K hK => ?_
    go_simp
    refine hK.out _ _ ?_ (fun qe => ?_)
    ·(try dsimp only); exact ko.out.tr H9.out.2.1
    clear hK K
    (try simp only [Act.put, zm])
    refine wpAnyH_done (by kernel_rfl) ?_ _
    refine NoPanic.normal ?_
    go_step
    go_step
    go_meet
    exact ⟨wn.heap.size, gs, rfl, l8, H9.out.1, H9.out.2.1, H9.out.2.2.1, H9.out.2.2.2⟩
  ·go_simp
   refine hK.out _ _ ?_ (fun qe => ?_)
   ·(try dsimp only); exact (show km w3 X v s from ⟨H3.out⟩).keeps (((qb.refl (fun _ => False) w3).alloc _).drew) id
   clear hK K
   (try simp only [Act.put, zm])
   refine zU 9 fun K hK => ?_
   go_simp
   refine (HN.out _).mono ?_
   rintro e wn ⟨rfl, jG⟩
   have WK : ∀ S, qb S w3 wn := fun S => by first | exact ((qb.refl S w3).drew.alloc _).trans (qb.of_below jG) | exact ((qb.refl S w3).alloc _).drew.trans (qb.of_below jG)
   have Vf : qm wn w3.heap.size 10 27 (fun _ => .complex .f64 0 0) := by first | exact (qm.new w3.drew 10 27 (fun _ => .complex .f64 0 0)).below jG (by simp) | exact ((qm.new w3 10 27 (fun _ => .complex .f64 0 0)).drew).below jG (by simp)
   have hJn := ko.out.keeps (ko.out.fresh H2.out.2.1) (WK _)
   have ln := (WK (fun _ => False)).size
   clear jG
   refine hK.out _ _ ?_ (fun qe => ?_)
   ·(try dsimp only); exact ko.out.tr hJn
   clear hK K
   (try simp only [Act.put, zm])
   have qgC : J (fun b => (E b ∨ b = w.heap.size) ∨ b = w3.heap.size) fs wn := ko.out.mono hJn (fun b hb => hb.imp id (fun e => by omega))
   refine zU 10 fun K hK => ?_
   go_simp
   have qh := ko.out.leave i j kh hj kY (fun b => (E b ∨ b = w.heap.size) ∨ b = w3.heap.size) fs wn HCN.out qgC (fun b hb => hb.elim (fun q => Nat.lt_of_lt_of_le (HE1.out b q) ln) (fun q => q ▸ Vf.lt))
   rw [← HZ.out.1, ← HNN.out] at qh
   refine qh.mono ?_
   rintro e wl ⟨gs, rfl, UB, hJl, jl⟩
   clear qh
   unfold qk
   have Qv : qb (fun b => Mt v b ∨ M2 b) w3 wl := (WK _).trans jl
   have hr82 : qm wl w3.heap.size 10 27 (fun _ => .complex .f64 0 0) := ⟨(jl.block _ Vf.lt (fun e => by have := HLT3.out _ e; omega)).trans Vf.heap⟩
   have ZI := hJl
   clear Vf
   have Vf := hr82
   clear hr82
   have l8 : w.heap.size < w3.heap.size := lw3
   refine hK.out _ _ ?_ (fun qe => ?_)
   ·(try dsimp only); exact ko.out.tr hJl
   clear hK K
   (try simp only [Act.put, zm])
   have hbz := yC Vf Z
   have r_ := Vf.rf10
   have zI := ξ (kn (w := wl) (b := w3.heap.size) Z)
   have za := ξ (qV (w := wl) (b := w3.heap.size) Vf Z)
   clear Vf
   have Qc := zI.out
   have VR := ko.out.keeps ZI (Qc.mono (fun i _ e => .inr e))
   have H9 := ξ (ζ UB (ζ VR (ζ (Qv.trans2 Qc (fun i hi e => absurd e (by omega))) hbz)))
   clear UB VR Qv hbz Qc ZI
   refine zU 12 fun K hK => ?_
   go_simp
   refine hK.out _ _ ?_ (fun qe => ?_)
   ·(try dsimp only); exact ko.out.tr H9.out.2.1
   clear hK K
   (try simp only [Act.put, zm])
   refine wpAnyH_done (by kernel_rfl) ?_ _
   refine NoPanic.normal ?_
   go_step
   go_step
   go_meet
   exact ⟨w3.heap.size, gs, rfl, l8, H9.out.1, H9.out.2.1, H9.out.2.2.1, H9.out.2.2.2⟩
 case rest =>
  obtain ⟨B8, gs, rfl, l8, yk, ZI, Qv, hb8⟩ := hcut
  obtain ⟨wb, rfl⟩ : ∃ wb, wb = wc := ⟨_, rfl⟩
  have HOF := ξ (fun W => qd2 (i : Int) (j : Int) W (by omega) (by omega) (by omega))
  have qjr : qm wb w.heap.size 10 27 (fun _ => .complex .f64 0 0) := ⟨(Qv.block _ qbB.lt (fun e => by have := HLT.out _ e; omega)).trans qbB.heap⟩
  have lb8 := hb8.lt
  have lb0 := qjr.lt
  have hv8 : qm wb B8 10 27 (fun i => qj (Z i)) := ⟨hb8.heap⟩
  obtain ⟨Z2, hZ2⟩ : ∃ Z2 : Cp, Z2 = (fun g => if g = 0 then some (i, j) else Z g) := ⟨_, rfl⟩
  have hw : jO s t i j = Z2 := by rw [hZ2, HZ.out.1]; rfl
  have hb9 : zG (wb.setCell ⟨B8, 0, none⟩ (.complex .f64 (floatOfInt .f64 (i : Int)) (floatOfInt .f64 (j : Int)))) B8 (cH Z2) 27 := ⟨by rw [(hv8.set 0 (.complex .f64 (floatOfInt .f64 (i : Int)) (floatOfInt .f64 (j : Int)))).heap, hZ2]; rfl⟩
  have hr9 : qm (wb.setCell ⟨B8, 0, none⟩ (.complex .f64 (floatOfInt .f64 (i : Int)) (floatOfInt .f64 (j : Int)))) w.heap.size 10 27 (fun _ => .complex .f64 0 0) := qjr.other (by show w.heap.size ≠ B8; omega) _
  have VR := ko.out.keeps ZI ((qb.refl (fun b => (E b ∨ b = w.heap.size) ∨ b = B8) wb).setCell (p := ⟨B8, 0, none⟩) (.inr rfl) (.complex .f64 (floatOfInt .f64 (i : Int)) (floatOfInt .f64 (j : Int))))
  have Xv : qb (fun b => Mt v b ∨ M2 b) w (wb.setCell ⟨B8, 0, none⟩ (.complex .f64 (floatOfInt .f64 (i : Int)) (floatOfInt .f64 (j : Int)))) := (H2.out.2.2.trans Qv).trans2 ((qb.refl (fun b => b = B8) wb).setCell (p := ⟨B8, 0, none⟩) rfl (.complex .f64 (floatOfInt .f64 (i : Int)) (floatOfInt .f64 (j : Int)))) (fun i hi e => absurd e (by omega))
  have QR := H2.out.1.trans yk
  have q1 := hv8.cell 0 (by decide)
  have q2 := hv8.fz 0
  have HW := ξ hw
  clear hw hZ2 Qv ZI hb8 qjr hv8 yk
  go_wp2_with fail
  refine (HOF.out _).mono ?_
  rintro e wO ⟨rfl, rfl⟩
  go_upto_region 5 with fail
  generalize hwd : wb.setCell ⟨B8, 0, none⟩ (.complex .f64 (floatOfInt .f64 (i : Int)) (floatOfInt .f64 (j : Int))) = wd at hb9 hr9 VR Xv ⊢
  clear hwd q1 q2
  have k0 : wd.cell? ⟨B8, 0, none⟩ = some (qj (Z2 0)) := qc.at (had := Z2) hb9 0 (by decide)
  have k1 : wd.cell? ⟨B8, 1, none⟩ = some (qj (Z2 1)) := qc.at (had := Z2) hb9 1 (by decide)
  have k2 : wd.cell? ⟨B8, 2, none⟩ = some (qj (Z2 2)) := qc.at (had := Z2) hb9 2 (by decide)
  have k3 : wd.cell? ⟨B8, 3, none⟩ = some (qj (Z2 3)) := qc.at (had := Z2) hb9 3 (by decide)
  have k4 : wd.cell? ⟨B8, 4, none⟩ = some (qj (Z2 4)) := qc.at (had := Z2) hb9 4 (by decide)
  have k5 : wd.cell? ⟨B8, 5, none⟩ = some (qj (Z2 5)) := qc.at (had := Z2) hb9 5 (by decide)
  have k6 : wd.cell? ⟨B8, 6, none⟩ = some (qj (Z2 6)) := qc.at (had := Z2) hb9 6 (by decide)
  have k7 : wd.cell? ⟨B8, 7, none⟩ = some (qj (Z2 7)) := qc.at (had := Z2) hb9 7 (by decide)
  have k8 : wd.cell? ⟨B8, 8, none⟩ = some (qj (Z2 8)) := qc.at (had := Z2) hb9 8 (by decide)
  have k9 : wd.cell? ⟨B8, 9, none⟩ = some (qj (Z2 9)) := qc.at (had := Z2) hb9 9 (by decide)
  clear hb9
  have qR := ξ (ζ QR (ζ VR Xv))
  clear QR VR Xv
  have r_ := hr9.rf10
  have zI := ξ (kn (w := wd) (b := w.heap.size) Z2)
  have za := ξ (qV (w := wd) (b := w.heap.size) hr9 Z2)
  clear hr9
  go_wp2
  obtain ⟨s0, s1, s2, s3, s4, s5, s6, s7, s8, s9⟩ := za.out
  first
  | refine bodyPost_ret (v := .tuple #[.agg (cH Z2), .bool true]) (by simp [results, results35, go_sem, s0, s1, s2, s3, s4, s5, s6, s7, s8, s9]) rfl ⟨gs, ?_, qR.out.1, ko.out.mono (ko.out.keeps qR.out.2.1 (zI.out.mono (fun i _ e => .inl (.inr e)))) (fun b hb => .inl (.inl hb)), qR.out.2.2.trans2 zI.out (fun i hi e => absurd e (by omega))⟩
  | refine bodyPost_ret (v := .tuple #[.agg (cH Z2), .bool true]) (by simp [results, results35, go_sem, s0, s1, s2, s3, s4, s5, s6, s7, s8, s9]) rfl ⟨?_, gs, qR.out.1, ko.out.mono (ko.out.keeps qR.out.2.1 (zI.out.mono (fun i _ e => .inl (.inr e)))) (fun b hb => .inl (.inl hb)), qR.out.2.2.trans2 zI.out (fun i hi e => absurd e (by omega))⟩
  show Ending.returned (.tuple #[qk Z2, .bool true]) = Ending.returned (.tuple #[qk (jO s t i j), .bool true])
  rw [HW.out]
end
def Wq (s : List UInt8) (t : T) (i j : Nat) : Bool := decide (i ≤ j) && (qd s t).ends i 0 kY j
def whC (s : List UInt8) (t : T) (i j : Nat) : Cp := if Wq s t i j = true then jO s t i j else kY
theorem qgD {X : Nat} {v : kU} {s : List UInt8} {t : T} {M2 : Nat → Prop} {J : (Nat → Prop) → List Lit → World → Prop} (tr : K6 X v s t M2 J) (i j : Nat) (hi : i ≤ s.length) (hj : j ≤ s.length) (E : Nat → Prop) (es : List Lit) (w : World) (hJ : J E es w) (hE : ∀ b, E b → b < w.heap.size) :
  Calls prog 35 #[.pointer (some ⟨X, 0, none⟩), .int .i64 i, .int .i64 j] w fun e w' => ∃ fs : List Lit, e = .returned (.tuple #[qk (whC s t i j), .bool (Wq s t i j)]) ∧ es <+: fs ∧ J E fs w' ∧ qb (fun b => Mt v b ∨ M2 b) w w' := by
 unfold whC
 by_cases kh : i ≤ j
 ·cases hr : (qd s t).ends i 0 kY j with
  | true =>
   have e : Wq s t i j = true := by unfold Wq; rw [hr]; simp [kh]
   rw [e, if_pos rfl]
   exact Yu tr i j kh hj hr E es w hJ hE
  | false =>
   have e : Wq s t i j = false := by unfold Wq; rw [hr]; simp
   rw [e, if_neg (by simp)]
   exact qeg tr i j kh hj hr E es w hJ hE
 ·have e : Wq s t i j = false := by unfold Wq; simp [kh]
  rw [e, if_neg (by simp)]
  exact Uc tr i hi j (by omega) E es w hJ hE
theorem jP {w w' : World} {B : Nat} (h : TabAt 0 Lib.deBruijn64tab w) (hB : Below B w w') (h0 : 0 < B) : TabAt 0 Lib.deBruijn64tab w' := fun j hj => by
 have e := hB.block 0 h0
 have := h j hj
 rw [← this]
 simp only [World.cell?, e]
theorem qfL (lb lo lc : Nat) (s : List UInt8) (xs : List Nd) (t : T) (hp : qN xs t) (qM : ∀ (i : Nat) (x : Nd), xs[i]? = some x → x.Fits) (jp : s.length ≤ 255) (W0 : 0 < t.refs → s.length ≤ 6 ∧ xs.length ≤ 24) (i j : Nat) (hi : i ≤ s.length) (hj : j ≤ s.length) (w : World) (hx : qn w lb lo xs) (hT : TabAt 0 Lib.deBruijn64tab w) (h0 : 0 < w.heap.size) :
  Calls prog 9 #[.slice (some ⟨lb, lo, none⟩) xs.length lc, .string ⟨s.toArray⟩, .int .i64 i, .int .i64 j] w fun e w' => e = .returned (.tuple #[qk (whC s t i j), .bool (Wq s t i j)]) ∧ Below w.heap.size w w' := by
 have h1 : 1 ≤ xs.length := by have := t.size_pos; have := hp.2.2.1; omega
 have h2 := hp.2.2.2.1
 have lx := hx.lt
 have HM := ξ (fun (W : World) (h : qn W lb lo xs) => Kw lb lo xs.length lc xs rfl h1 h2 qM true ⟨fun _ => ⟨t, hp⟩, fun _ => rfl⟩ W h)
 have HP1 : Hid (∀ W, Calls prog 33 #[.string ⟨s.toArray⟩, .int .i64 i] W fun e w' => e = .returned (.bool true) ∧ w' = W) := ξ (fun W => by
  have := yB s i W
  rw [decide_eq_true (show (0 : Int) ≤ (i : Int) ∧ (i : Int) ≤ s.length by omega)] at this
  exact this)
 have HP2 : Hid (∀ W, Calls prog 33 #[.string ⟨s.toArray⟩, .int .i64 j] W fun e w' => e = .returned (.bool true) ∧ w' = W) := ξ (fun W => by
  have := yB s j W
  rw [decide_eq_true (show (0 : Int) ≤ (j : Int) ∧ (j : Int) ≤ s.length by omega)] at this
  exact this)
 have HN := ξ (fun (W : World) (h : qn W lb lo xs) (hT : TabAt 0 Lib.deBruijn64tab W) (h0 : 0 < W.heap.size) => ZJ lb lo lc s xs t hp qM jp W0 W h hT h0)
 have HX := ξ (ζ hx (ζ hT h0))
 have Jk : qm (w.alloc (.cells cZ 27)) w.heap.size 10 27 (fun _ => .complex .f64 0 0) := qm.new w 10 27 (fun _ => .complex .f64 0 0)
 have Vw : Below w.heap.size w (w.alloc (.cells cZ 27)) := (Below.refl _ w).alloc (Nat.le_refl _) _
 have Gi := ξ (ζ Jk Vw)
 obtain ⟨Z, hZ⟩ : ∃ Z, Z = whC s t i j := ⟨_, rfl⟩
 obtain ⟨r, hr⟩ : ∃ r, r = Wq s t i j := ⟨_, rfl⟩
 rw [← hZ, ← hr]
 have HZR := ξ (ζ hZ hr)
 clear hx hT hp qM jp W0 Jk Vw hZ hr
 go_enter func9, ntmps9
 go_wp2_with fail
 refine (HM.out _ (HX.out.1.below Gi.out.2 lx)).mono ?_
 rintro e w1 ⟨rfl, qr⟩
 have lz := qr.size
 have lw1 : w.heap.size < w1.heap.size := by simp at lz; omega
 have VE : Below w.heap.size w w1 := Gi.out.2.trans (qr.mono (by simp))
 have qeh : qm w1 w.heap.size 10 27 (fun _ => .complex .f64 0 0) := Gi.out.1.below qr (by simp)
 have H1 := ξ (ζ VE qeh)
 clear qr VE qeh lz
 go_wp2_with fail
 refine (HP1.out _).mono ?_
 rintro e w2 ⟨rfl, rfl⟩
 go_wp2_with fail
 refine (HP2.out _).mono ?_
 rintro e w3 ⟨rfl, rfl⟩
 go_wp2_with fail
 refine (HN.out _ (HX.out.1.below H1.out.1 lx) (jP HX.out.2.1 H1.out.1 HX.out.2.2) (by omega)).mono ?_
 rintro e w4 ⟨X, v, M2, J, rfl, tr, hJ, ZX, vU⟩
 have qh := qgD tr i j hi hj _ [] w4 hJ (fun b hb => hb.elim)
 rw [← HZR.out.1, ← HZR.out.2] at qh
 have qp := ξ qh
 have H4 := ξ (ζ ZX vU)
 have lw4 := vU.size
 clear qh ZX vU tr hJ
 go_wp2_with fail
 refine qp.out.mono ?_
 rintro e w5 ⟨fs, rfl, _, _, vH⟩
 have ki : Below w3.heap.size w3 w5 := H4.out.2.trans (vH.below lw4 H4.out.1)
 have Vg : qm w5 w.heap.size 10 27 (fun _ => .complex .f64 0 0) := H1.out.2.below ki lw1
 have lw5 := ki.size
 have Y8 := ξ ki
 clear vH ki qp
 unfold qk
 have r_ := Vg.rf10
 have zI := ξ (kn (w := w5) (b := w.heap.size) Z)
 have za := ξ (qV (w := w5) (b := w.heap.size) Vg Z)
 clear Vg
 go_wp2
 refine bodyPost_ret (v := .tuple #[.agg (cH Z), .bool r]) (by simp [results, results9, go_sem, za.out]) rfl ⟨rfl, ?_⟩
 exact ((H1.out.1.trans (Y8.out.mono (by omega))).trans (zI.out.below (by omega) (fun i e => by subst e; exact Nat.le_refl _)))
def lgR (s : List UInt8) (t : T) (i : Nat) : Option Nat := greatest i (fun j => (qd s t).ends i 0 kY j) s.length
def lgC (s : List UInt8) (t : T) (i : Nat) : Cp := match lgR s t i with | some k => jO s t i k | none => kY
theorem qbA (lb lo lc : Nat) (s : List UInt8) (xs : List Nd) (t : T) (hp : qN xs t) (qM : ∀ (i : Nat) (x : Nd), xs[i]? = some x → x.Fits) (jp : s.length ≤ 255) (W0 : 0 < t.refs → s.length ≤ 6 ∧ xs.length ≤ 24) (i : Nat) (hi : i ≤ s.length) (w : World) (hx : qn w lb lo xs) (hT : TabAt 0 Lib.deBruijn64tab w) (h0 : 0 < w.heap.size) :
  Calls prog 16 #[.slice (some ⟨lb, lo, none⟩) xs.length lc, .string ⟨s.toArray⟩, .int .i64 i] w fun e w' => e = .returned (.tuple #[qk (lgC s t i), .bool (lgR s t i).isSome]) ∧ Below w.heap.size w w' := by
 have h1 : 1 ≤ xs.length := by have := t.size_pos; have := hp.2.2.1; omega
 have h2 := hp.2.2.2.1
 have lx := hx.lt
 have kR : (⟨s.toArray⟩ : ByteArray).size = s.length := by simp [ByteArray.size]
 have HM := ξ (fun (W : World) (h : qn W lb lo xs) => Kw lb lo xs.length lc xs rfl h1 h2 qM true ⟨fun _ => ⟨t, hp⟩, fun _ => rfl⟩ W h)
 have HP1 : Hid (∀ W, Calls prog 33 #[.string ⟨s.toArray⟩, .int .i64 i] W fun e w' => e = .returned (.bool true) ∧ w' = W) := ξ (fun W => by
  have := yB s i W
  rw [decide_eq_true (show (0 : Int) ≤ (i : Int) ∧ (i : Int) ≤ s.length by omega)] at this
  exact this)
 have HN := ξ (fun (W : World) (h : qn W lb lo xs) (hT : TabAt 0 Lib.deBruijn64tab W) (h0 : 0 < W.heap.size) => ZJ lb lo lc s xs t hp qM jp W0 W h hT h0)
 have HX := ξ (ζ hx (ζ hT h0))
 have Jk : qm (w.alloc (.cells cZ 27)) w.heap.size 10 27 (fun _ => .complex .f64 0 0) := qm.new w 10 27 (fun _ => .complex .f64 0 0)
 have Vw : Below w.heap.size w (w.alloc (.cells cZ 27)) := (Below.refl _ w).alloc (Nat.le_refl _) _
 have Gi := ξ (ζ Jk Vw)
 clear hx hT hp qM W0 Jk Vw
 go_enter func16, ntmps16
 go_wp2_with fail
 refine (HM.out _ (HX.out.1.below Gi.out.2 lx)).mono ?_
 rintro e w1 ⟨rfl, qr⟩
 have lz := qr.size
 have lw1 : w.heap.size < w1.heap.size := by simp at lz; omega
 have VE : Below w.heap.size w w1 := Gi.out.2.trans (qr.mono (by simp))
 have qeh : qm w1 w.heap.size 10 27 (fun _ => .complex .f64 0 0) := Gi.out.1.below qr (by simp)
 have H1 := ξ (ζ VE qeh)
 clear qr VE qeh lz
 go_wp2_with fail
 refine (HP1.out _).mono ?_
 rintro e w2 ⟨rfl, rfl⟩
 go_wp2_with fail
 refine (HN.out _ (HX.out.1.below H1.out.1 lx) (jP HX.out.2.1 H1.out.1 HX.out.2.2) (by omega)).mono ?_
 rintro e w4 ⟨X, v, M2, J, rfl, tr, hJ, ZX, vU⟩
 have qt := ξ (qaA tr i hi _ [] w4 hJ (fun b hb => hb.elim))
 have H4 := ξ (ζ ZX vU)
 have ko := ξ tr
 have lw4 := vU.size
 clear ZX vU tr hJ
 go_wp2_with fail
 refine qt.out.mono ?_
 rintro e w6 ⟨b, fs, rfl, qv, _, _, _, K2, Q9⟩
 have HUP := ξ (Gf b (s.length / 64 + 1) (s.length / 64 + 1) s.length _ (by omega) (by omega) w6 qv)
 have H6 := ξ (ζ (H4.out.2.trans (Q9.below lw4 H4.out.1)) K2)
 have lw6 := Q9.size
 clear qv Q9 K2 qt
 unfold PV
 go_wp2_with fail
 refine HUP.out.mono ?_
 rintro e w7 ⟨⟨r, rfl, hr⟩, rfl⟩
 clear HUP
 rcases hr with ⟨rfl, hz⟩ | ⟨k, rfl, zO, qH, zl⟩
 ·have hg : lgR s t i = none := Vh (fun j h1 h2 => hz j (by omega))
  have qh := Uc ko.out i hi (-1) (by omega) _ fs w7 H6.out.2 (fun b hb => hb.elim)
  obtain ⟨Z, hZ⟩ : ∃ Z, Z = kY := ⟨_, rfl⟩
  rw [← hZ] at qh
  have HZ : Hid (Z = lgC s t i ∧ false = (lgR s t i).isSome) := ξ ⟨by unfold lgC; rw [hg]; exact hZ, by rw [hg]; rfl⟩
  have qp := ξ qh
  clear qh hZ hz hg
  go_wp2_with fail
  refine qp.out.mono ?_
  rintro e w5 ⟨gs, rfl, _, _, vH⟩
  have ki : Below w2.heap.size w2 w5 := H6.out.1.trans (vH.below (by have := H6.out.1.size; omega) H4.out.1 |>.mono (by omega))
  have Vg : qm w5 w.heap.size 10 27 (fun _ => .complex .f64 0 0) := H1.out.2.below ki lw1
  have lw5 := ki.size
  have Y8 := ξ ki
  clear vH ki qp
  unfold qk
  have r_ := Vg.rf10
  have zI := ξ (kn (w := w5) (b := w.heap.size) Z)
  have za := ξ (qV (w := w5) (b := w.heap.size) Vg Z)
  clear Vg
  go_wp2
  refine bodyPost_ret (v := .tuple #[.agg (cH Z), .bool false]) (by simp [results, results16, go_sem, za.out]) rfl ⟨?_, ?_⟩
  ·show Ending.returned (.tuple #[qk Z, .bool false]) = Ending.returned (.tuple #[qk (lgC s t i), .bool (lgR s t i).isSome])
   rw [HZ.out.1, HZ.out.2]
  exact ((H1.out.1.trans (Y8.out.mono (by omega))).trans (zI.out.below (by omega) (fun i e => by subst e; exact Nat.le_refl _)))
 ·have ZM := ko.out.ok.le i 0 kY k (fun g a b e => by cases e) hi qH
  have hg : lgR s t i = some k := Vi ZM.1 ZM.2 qH (fun j h1 h2 => zl j h1 (by omega))
  have qh := Yu ko.out i k ZM.1 ZM.2 qH _ fs w7 H6.out.2 (fun b hb => hb.elim)
  obtain ⟨Z, hZ⟩ : ∃ Z, Z = jO s t i k := ⟨_, rfl⟩
  rw [← hZ] at qh
  have HZ : Hid (Z = lgC s t i ∧ true = (lgR s t i).isSome) := ξ ⟨by unfold lgC; rw [hg]; exact hZ, by rw [hg]; rfl⟩
  have qp := ξ qh
  clear qh hZ zO qH zl hg ZM
  go_wp2_with fail
  refine qp.out.mono ?_
  rintro e w5 ⟨gs, rfl, _, _, vH⟩
  have ki : Below w2.heap.size w2 w5 := H6.out.1.trans (vH.below (by have := H6.out.1.size; omega) H4.out.1 |>.mono (by omega))
  have Vg : qm w5 w.heap.size 10 27 (fun _ => .complex .f64 0 0) := H1.out.2.below ki lw1
  have lw5 := ki.size
  have Y8 := ξ ki
  clear vH ki qp
  unfold qk
  have r_ := Vg.rf10
  have zI := ξ (kn (w := w5) (b := w.heap.size) Z)
  have za := ξ (qV (w := w5) (b := w.heap.size) Vg Z)
  clear Vg
  go_wp2
  refine bodyPost_ret (v := .tuple #[.agg (cH Z), .bool true]) (by simp [results, results16, go_sem, za.out]) rfl ⟨?_, ?_⟩
  ·show Ending.returned (.tuple #[qk Z, .bool true]) = Ending.returned (.tuple #[qk (lgC s t i), .bool (lgR s t i).isSome])
   rw [HZ.out.1, HZ.out.2]
  exact ((H1.out.1.trans (Y8.out.mono (by omega))).trans (zI.out.below (by omega) (fun i e => by subst e; exact Nat.le_refl _)))
def Kf (f : Nat → Bool) : Nat → Nat → List Nat
 | 0, _ => []
 | d + 1, k => if f k then k :: Kf f d (k + 1) else Kf f d (k + 1)
def vh (f : Nat → Bool) (n k : Nat) : List Nat := Kf f (n + 1 - k) k
theorem Vj {f : Nat → Bool} : ∀ (d k : Nat), (∀ j, k ≤ j → f j = false) → Kf f d k = []
 | 0, _, _ => rfl
 | d + 1, k, h => by
  rw [Kf, if_neg (by rw [h k (Nat.le_refl _)]; simp)]
  exact Vj d (k + 1) (fun j hj => h j (by omega))
theorem Vk {f : Nat → Bool} {n k : Nat} (hk : k ≤ n) (hf : f k = true) : ∀ (m k0 : Nat), k0 + m = k → (∀ j, k0 ≤ j → j < k → f j = false) → vh f n k0 = k :: vh f n (k + 1)
 | 0, k0, e, h => by
  have e' : k0 = k := by omega
  subst e'
  unfold vh
  rw [show n + 1 - k0 = (n + 1 - (k0 + 1)) + 1 by omega, Kf, if_pos hf]
 | m + 1, k0, e, h => by
  have := Vk hk hf m (k0 + 1) (by omega) (fun j h1 h2 => h j (by omega) h2)
  rw [← this]
  unfold vh
  rw [show n + 1 - k0 = (n + 1 - (k0 + 1)) + 1 by omega, Kf, if_neg (by rw [h k0 (Nat.le_refl _) (by omega)]; simp)]
theorem Yv {f : Nat → Bool} : ∀ (d k : Nat), (Kf f d k).length ≤ d
 | 0, _ => Nat.le_refl _
 | d + 1, k => by
  have := Yv (f := f) d (k + 1)
  rw [Kf]
  split
  ·simp; omega
  ·omega
def Ud (l : List Nat) : List Value := l.map fun (k : Nat) => Value.int .i64 (k : Int)
theorem qbC {w : World} {b b' : Nat} {e : TypeId} {sz n : Nat} {v : Value} {xs : List Value} (h : w.ownsRow b e sz v n xs) (hb : b' ≤ b) : w.ownsRow b' e sz v n xs :=
 ⟨h.1, h.2.imp id (fun ⟨g, cap, cur, e, hg, r⟩ => ⟨g, cap, cur, e, Nat.le_trans hb hg, r⟩)⟩
theorem qjq (lb lo lc : Nat) (s : List UInt8) (xs : List Nd) (t : T) (hp : qN xs t) (qM : ∀ (i : Nat) (x : Nd), xs[i]? = some x → x.Fits) (jp : s.length ≤ 255) (W0 : 0 < t.refs → s.length ≤ 6 ∧ xs.length ≤ 24) (i : Nat) (hi : i ≤ s.length) (w : World) (hx : qn w lb lo xs) (hT : TabAt 0 Lib.deBruijn64tab w) (h0 : 0 < w.heap.size) :
  Calls prog 19 #[.slice (some ⟨lb, lo, none⟩) xs.length lc, .string ⟨s.toArray⟩, .int .i64 i] w fun e w' => ∃ val : Value, e = .returned val ∧ w'.ownsRow w.heap.size 3 1 val (vh (fun j => (qd s t).ends i 0 kY j) s.length i).length (Ud (vh (fun j => (qd s t).ends i 0 kY j) s.length i)) ∧ Below w.heap.size w w' := by
 have h1 : 1 ≤ xs.length := by have := t.size_pos; have := hp.2.2.1; omega
 have h2 := hp.2.2.2.1
 have lx := hx.lt
 obtain ⟨i0, hii, QX, kF, vv⟩ := info_parts qg3
 have HM := ξ (fun (W : World) (h : qn W lb lo xs) => Kw lb lo xs.length lc xs rfl h1 h2 qM true ⟨fun _ => ⟨t, hp⟩, fun _ => rfl⟩ W h)
 have HP1 : Hid (∀ W, Calls prog 33 #[.string ⟨s.toArray⟩, .int .i64 i] W fun e w' => e = .returned (.bool true) ∧ w' = W) := ξ (fun W => by
  have := yB s i W
  rw [decide_eq_true (show (0 : Int) ≤ (i : Int) ∧ (i : Int) ≤ s.length by omega)] at this
  exact this)
 have HN := ξ (fun (W : World) (h : qn W lb lo xs) (hT : TabAt 0 Lib.deBruijn64tab W) (h0 : 0 < W.heap.size) => ZJ lb lo lc s xs t hp qM jp W0 W h hT h0)
 have HX := ξ (ζ hx (ζ hT h0))
 have hsk := zw s t (kQ t (jS t hp.1)).1
 obtain ⟨f, hf⟩ : ∃ f : Nat → Bool, f = fun j => (qd s t).ends i 0 kY j := ⟨_, rfl⟩
 have hff : ∀ j, s.length < j → f j = false := fun j hj => by
  rw [Bool.eq_false_iff]
  intro e
  rw [hf] at e
  have := (hsk.le i 0 kY j (fun g a b e => by cases e) hi e).2
  omega
 rw [← hf]
 have HF := ξ (ζ hf hff)
 have HI := ξ (ζ hii (ζ QX (ζ kF vv)))
 clear hx hT hp qM W0 hsk hf hff
 go_enter func19, ntmps19
 go_wp2_with fail
 refine (HM.out _ HX.out.1).mono ?_
 rintro e w1 ⟨rfl, qr⟩
 have lw1 := qr.size
 have H1 := ξ qr
 clear qr
 go_wp2_with fail
 refine (HP1.out _).mono ?_
 rintro e w2 ⟨rfl, rfl⟩
 go_wp2_with fail
 refine (HN.out _ (HX.out.1.below H1.out lx) (jP HX.out.2.1 H1.out HX.out.2.2) (by omega)).mono ?_
 rintro e w4 ⟨X, v, M2, J, rfl, tr, hJ, ZX, vU⟩
 have qt := ξ (qaA tr i hi _ [] w4 hJ (fun b hb => hb.elim))
 have H4 := ξ (ζ ZX vU)
 have ko := ξ tr
 have lw4 := vU.size
 clear ZX vU tr hJ
 go_wp2_with fail
 refine qt.out.mono ?_
 rintro e w6 ⟨b, fs, rfl, qv, _, _, _, K2, Q9⟩
 have hT6 := ko.out.tab K2
 rw [show (fun j => (qd s t).ends i 0 kY j) = f from HF.out.1.symm] at qv
 have HFR := ξ (fun (q : Nat) (hq : q ≤ 1000000000) (W : World) (hT : TabAt 0 Lib.deBruijn64tab W) (h : qI W b (s.length / 64 + 1) f) => Xs b (s.length / 64 + 1) (s.length / 64 + 1) q _ (by omega) hq (fun i hi => HF.out.2 i (by omega)) W hT h)
 have QS := ξ (HFR.out i (by omega) w6 hT6 qv)
 have jY : Below w.heap.size w w6 := H1.out.trans ((H4.out.2.trans (Q9.below lw4 H4.out.1)).mono lw1)
 have H6 := ξ (ζ qv (ζ hT6 jY))
 have lb6 := qv.lt
 have lw6 := jY.size
 clear qv Q9 K2 qt hT6 jY
 unfold PV
 go_wp2_with fail
 refine QS.out.mono ?_
 rintro e w7 ⟨⟨r, rfl, hr⟩, rfl⟩
 have HR := ξ hr
 clear hr QS
 go_wp2
 go_loopw [7, 9] (fun tv rv wr => ∃ (val : Value) (out : List Nat) (r : Int) (k0 : Nat), tv = val ∧ rv = .int .i64 r ∧ i ≤ k0 ∧ k0 ≤ s.length + 1 ∧ yL f k0 r ∧ vh f s.length i = out ++ vh f s.length k0 ∧ wr.ownsRow w7.heap.size 3 1 val out.length (Ud out) ∧ Below w7.heap.size w7 wr) (fun _ rv _ => msr s.length (RowKit.intOf rv))
 case atStart => exact ⟨_, [], r, i, rfl, rfl, Nat.le_refl _, by omega, HR.out, rfl, World.ownsRow_nil w7 _ _ _, Below.refl _ _⟩
 case round =>
  obtain ⟨val, out, r2, k0, rfl, rfl, Vu, zO, Qo, Wu, zq, hB⟩ := hrel
  have lB := hB.size
  rcases Qo with ⟨rfl, hz⟩ | ⟨k, rfl, q1, q2, q3⟩
  ·have qhy : vh f s.length i = out := by
    rw [Wu]
    unfold vh
    rw [Vj _ _ hz, List.append_nil]
   have HL := ξ (ζ qhy (ζ zq hB))
   clear qhy zq hB Wu hz
   go_wp2
   go_ret
   exact ⟨_, rfl, by rw [HL.out.1]; exact qbC HL.out.2.1 lw6, H6.out.2.2.trans (HL.out.2.2.mono lw6)⟩
  ·have WK : k ≤ s.length := by
    rcases Nat.lt_or_ge s.length k with q | q
    ·have := HF.out.2 k q; rw [this] at q2; cases q2
    ·exact q
   have qq : out.length ≤ s.length + 1 := by
    have h3 := Yv (f := f) (s.length + 1 - i) i
    have h4 : (vh f s.length i).length = out.length + (vh f s.length k0).length := by rw [Wu, List.length_append]
    unfold vh at h4
    omega
   have hnx := Vk WK q2 (k - k0) k0 (by omega) q3
   have qhz : vh f s.length i = (out ++ [k]) ++ vh f s.length (k + 1) := by rw [Wu, hnx]; simp
   have HO := ξ (ζ qhz hB)
   have h0k : (0 : Int) ≤ (k : Int) := by omega
   obtain ⟨hii, QX, kF, vv⟩ := HI.out
   clear hnx Wu qhz q2 q3
   go_wp2_with (at_builtin; refine wpList_append_own _ rfl _ _ 43 rfl w7.heap.size 3 i0 (.int .i64 0) 1 8 underlying43 hii QX kF vv rfl (by decide) _ _ _ rfl (zq.alloc _) ⟨wr.heap.size, 0, none⟩ 1 1 [.int .i64 (k : Int)] rfl rfl ?qc2 ?qc3 ?qc4 ?qc5 ?qc6 ?_)
   case qc2 =>
    intro j u hj
    rw [Addr.add_lit, Nat.zero_add]
    cases j with
    | zero =>
     simp at hj
     subst hj
     exact (zG.new wr #[.int .i64 (k : Int)] 3).cell 0
    | succ j => simp at hj
   case qc3 =>
    intro u hu
    simp at hu
    subst hu
    rfl
   case qc4 => unfold maxLen; omega
   case qc5 => omega
   case qc6 => simp; omega
   intro v' w8 hown1 zM hnil
   have qr : Below w7.heap.size w7 w8 := (HO.out.2.alloc (by omega) _).grown zM (by simp; omega) (fun k hk => (zq.lt k hk).1)
   have lB8 := qr.size
   have HFK := HFR.out (k + 1) (by omega) w8 (jP H6.out.2.1 qr (by omega)) (H6.out.1.below qr lb6)
   rw [show ((k + 1 : Nat) : Int) = (k : Int) + 1 from by omega] at HFK
   have HFK := ξ HFK
   have H8 := ξ (ζ hown1 qr)
   clear hown1 zM hnil qr hii QX kF vv zq hB
   go_wp2_with fail
   refine HFK.out.mono ?_
   rintro e w9 ⟨⟨r3, rfl, kH⟩, rfl⟩
   have VS : r3 = -1 ∨ (k : Int) + 1 ≤ r3 := by
    rcases kH with ⟨e, _⟩ | ⟨k', e, h, _⟩
    ·exact .inl e
    ·exact .inr (by omega)
   have HR3 := ξ kH
   clear kH HFK
   go_wp2
   go_roundw
   case rel =>
    refine ⟨v', out ++ [k], r3, k + 1, rfl, rfl, by omega, by omega, HR3.out, HO.out.1, ?_, H8.out.2⟩
    have := H8.out.1
    rw [show (out ++ [k]).length = out.length + 1 by simp, show Ud (out ++ [k]) = Ud out ++ [.int .i64 (k : Int)] by simp [Ud]]
    exact this
   case measure => exact Vl WK VS
end Go.Proofs.YtjgegohidhdbpaaGreatDoor
