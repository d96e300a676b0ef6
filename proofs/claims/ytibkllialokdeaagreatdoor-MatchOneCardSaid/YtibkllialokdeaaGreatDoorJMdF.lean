/- A trial: whole, where it fits. -/
import Derived.Test.YtibkllialokdeaaGreatDoorJMdB
import Derived.Test.YtibkllialokdeaaGreatDoorJMbL
import Derived.Deep.CutBlock
import Derived.Test.YtibkllialokdeaaGreatDoorJMbO
set_option linter.unusedVariables false
set_option linter.unusedSimpArgs false
set_option maxRecDepth 100000
set_option maxHeartbeats 40000000
namespace Go.Proofs.YtibkllialokdeaaGreatDoor
open Go.RowKit Go.Maps Go.WideMaps
section
variable {X : Nat} {v : TrV} {s : List UInt8} {t : T} {M2 : Nat → Prop} {J : (Nat → Prop) → List Lit → World → Prop}
theorem whole_yes (tr : Trial X v s t M2 J) (i j : Nat) (hij : i ≤ j) (hj : j ≤ s.length) (hno : (semT s t).ends i 0 noC j = true) (E : Nat → Prop) (es : List Lit) (w : World) (hJ : J E es w) (hE : ∀ b, E b → b < w.heap.size) :
  Calls Tryz.prog 34 #[.pointer (some ⟨X, 0, none⟩), .int .i64 i, .int .i64 j] w fun e w' => ∃ fs : List Lit, e = .returned (.tuple #[capV (wholeC s t i j), .bool true]) ∧ es <+: fs ∧ J E fs w' ∧ Keeps (fun b => Mt v b ∨ M2 b) w w' := by
 have hsl := tr.sl
 have hJ1 : J (fun b => E b ∨ b = w.heap.size) es (w.alloc (.cells cZ 27)) := tr.mono (tr.keeps (tr.fresh hJ) (((Keeps.refl _ w)).alloc _)) (fun b hb => hb.imp id (fun e => by omega))
 have hE1 : ∀ b, (E b ∨ b = w.heap.size) → b < (w.alloc (.cells cZ 27)).heap.size := fun b hb => by
  rw [World.size_alloc]
  rcases hb with hb | hb
  ·have := hE b hb; omega
  ·omega
 have hrz : VRow (w.alloc (.cells cZ 27)) w.heap.size 10 27 (fun _ => .complex .f64 0 0) := VRow.new w 10 27 (fun _ => .complex .f64 0 0)
 have hk1 : Keeps (fun b => Mt v b ∨ M2 b) w (w.alloc (.cells cZ 27)) := (Keeps.refl _ w).alloc _
 have HTR := Lib.hid tr
 have HN := Lib.hid (fun w => mnone_c w)
 have hall := all_c tr i (by omega) _ es _ hJ1 hE1
 have HALL := Lib.hid hall
 have HK1 := Lib.hid hk1
 have HNO := Lib.hid hno
 have hltm := tr.lt hJ
 have HLT := Lib.hid hltm
 have hlt : ¬ (j : Int) < (i : Int) := by omega
 have HE0 := Lib.hid hE
 have hn := tr.n
 have hpos : 1 ≤ v.n := by have := t.size_pos; omega
 have hn2 := tr.n2
 have hnn : IntKind.i64.wrap ((v.n : Int) - 1) = ((t.size - 1 : Nat) : Int) := by rw [show (v.n : Int) - 1 = ((t.size - 1 : Nat) : Int) by omega]; simp [IntKind.wrap, IntKind.signed, IntKind.bits]; omega
 have HNN := Lib.hid hnn
 have HCN : Hid (CapOk s.length noC) := Lib.hid (fun g a b e => by cases e)
 obtain ⟨Z, hZ⟩ : ∃ Z, Z = (semT s t).leave i j noC := ⟨_, rfl⟩
 have HZ := Lib.hid (And.intro hZ trivial)
 clear tr hJ hE hJ1 hk1 hall hno hltm hE1 hn hnn hZ
 go_enter Tryz.func34, Tryz.ntmps34
 go_wp2_with fail
 refine HALL.out.mono ?_
 rintro e w2 ⟨b, fs, rfl, hrow, hb, hbm, hpre, hJ2, hk2⟩
 have HHAS := Lib.hid (has_m b (s.length / 64 + 1) (s.length / 64 + 1) j _ (by omega) (by omega) w2 hrow)
 have hrz2 : VRow w2 w.heap.size 10 27 (fun _ => .complex .f64 0 0) := ⟨(hk2.block _ hrz.lt (fun e => by have := HLT.out _ e; omega)).trans hrz.heap⟩
 have H2 := Lib.hid (And.intro hpre (And.intro hJ2 (HK1.out.trans hk2)))
 clear hrow hb hbm hpre hJ2 hk2 HALL hrz
 unfold PV
 go_wp2_with fail
 refine HHAS.out.mono ?_
 rintro e w3 ⟨rfl, rfl⟩
 clear HHAS
 rw [HNO.out]
 have lw3 : w.heap.size < w3.heap.size := hrz2.lt
 have HE1 : Hid (∀ b, (E b ∨ b = w.heap.size) → b < w3.heap.size) := Lib.hid (fun b hb => by
  rcases hb with hb | hb
  ·have := HE0.out b hb; omega
  ·omega)
 have H3 := Lib.hid (HTR.out.tr H2.out.2.1).heap
 have HLT3 : Hid (∀ b, (Mt v b ∨ M2 b) → b < w3.heap.size) := Lib.hid (fun b hb => HTR.out.lt H2.out.2.1 b hb)
 go_upto_region 3 with fail
 go_cut [8] from 21 (fun pv wx => ∃ (B8 : Nat) (gs : List Lit), pv = .pointer (some ⟨B8, 0, none⟩) ∧ w.heap.size < B8 ∧ fs <+: gs ∧ J (fun b => (E b ∨ b = w.heap.size) ∨ b = B8) gs wx ∧ Keeps (fun b => Mt v b ∨ M2 b) w3 wx ∧ Blk wx B8 (cH Z) 27)
 case first =>
  go_wp2_with fail
  refine wp_region_noPanic ?_
  refine wp_region_held_drew (S := fun w' => TrAt w' X v s) (by kernel_rfl) ?_ (fun hHeld => ?_)
  ·(try dsimp only); exact ⟨H3.out⟩
  refine tk (i := 0) (v := ?_) rfl ?_ ?_; rotate_left
  ·(intro wq hSw; (try dsimp only at hSw); have x0 := hSw.c0; go_simp); (try with_reducible rfl)
  (try simp only [Act.put, tkS])
  refine tk (i := 1) (v := ?_) rfl ?_ ?_; rotate_left
  ·(intro wq hSw; (try dsimp only at hSw); have x0 := hSw.c0; go_simp); (try with_reducible rfl)
  (try simp only [Act.put, tkS])
  refine tk (i := 2) (v := ?_) rfl ?_ ?_; rotate_left
  ·(intro wq hSw; (try dsimp only at hSw); have x0 := hSw.c0; go_simp); (try with_reducible rfl)
  (try simp only [Act.put, tkS])
  refine tk (i := 3) (v := ?_) rfl ?_ ?_; rotate_left
  ·(intro wq hSw; (try dsimp only at hSw); have x0 := hSw.c0; go_simp); (try with_reducible rfl)
  (try simp only [Act.put, tkS])
  refine tk (i := 4) (v := ?_) rfl ?_ ?_; rotate_left
  ·(intro wq hSw; (try dsimp only at hSw); have x0 := hSw.c0; go_simp); (try with_reducible rfl)
  (try simp only [Act.put, tkS])
  refine tk (i := 5) (v := ?_) rfl ?_ ?_; rotate_left
  ·(intro wq hSw; (try dsimp only at hSw); have x0 := hSw.c0; go_simp); (try with_reducible rfl)
  (try simp only [Act.put, tkS])
  refine tk (i := 6) (v := ?_) rfl ?_ ?_; rotate_left
  ·(intro wq hSw; (try dsimp only at hSw); have x0 := hSw.c0; go_simp); (try with_reducible rfl)
  (try simp only [Act.put, tkS])
  refine tk (i := 7) (v := ?_) rfl ?_ ?_; rotate_left
  ·(intro wq hSw; (try dsimp only at hSw); have x0 := hSw.c0; go_simp); (try with_reducible rfl)
  (try simp only [Act.put, tkS])
  refine tk (i := 8) (v := ?_) rfl ?_ ?_; rotate_left
  ·(intro wq hSw; (try dsimp only at hSw); have x0 := hSw.c0; go_simp); (try with_reducible rfl)
  (try simp only [Act.put, tkS])
  refine wpAnyH_ready (rs := [9, 11]) (by kernel_rfl) (by simp) ?_
  refine AllReadyH.cons rfl (fun K hK => ?_) (AllReadyH.cons rfl (fun K hK => ?_) AllReadyH.nil)
  ·go_simp
   refine (HN.out _).mono ?_
   rintro e wn ⟨rfl, hBn⟩
   have hkn : ∀ S, Keeps S w3 wn := fun S => (Keeps.refl S w3).drew.trans (Keeps.of_below hBn)
   have hJn := HTR.out.keeps H2.out.2.1 (hkn _)
   have ln := (hkn (fun _ => False)).size
   clear hBn
   refine hK.out _ _ ?_ (fun hHeld => ?_)
   ·(try dsimp only); exact HTR.out.tr hJn
   clear hK K
   (try simp only [Act.put, tkS])
   refine wpAnyH_ready (rs := [10, 11]) (by kernel_rfl) (by simp) ?_
   refine AllReadyH.cons rfl (fun K hK => ?_) (AllReadyH.cons rfl (fun K hK => ?_) AllReadyH.nil)
   ·go_simp
    have hcall := HTR.out.leave i j hij hj noC (fun b => E b ∨ b = w.heap.size) fs wn HCN.out hJn (fun b hb => Nat.lt_of_lt_of_le (HE1.out b hb) ln)
    rw [← HZ.out.1, ← HNN.out] at hcall
    refine hcall.mono ?_
    rintro e wl ⟨gs, rfl, hpl, hJl, hkl⟩
    clear hcall
    unfold capV
    have hk8 : Keeps (fun b => Mt v b ∨ M2 b) w3 (wl.alloc (.cells cZ 27)) := ((hkn _).trans hkl).alloc _
    have hr8 : VRow (wl.alloc (.cells cZ 27)) wl.heap.size 10 27 (fun _ => .complex .f64 0 0) := VRow.new wl 10 27 (fun _ => .complex .f64 0 0)
    have hJ8 : J (fun b => (E b ∨ b = w.heap.size) ∨ b = wl.heap.size) gs (wl.alloc (.cells cZ 27)) := HTR.out.mono (HTR.out.keeps (HTR.out.fresh hJl) ((Keeps.refl _ wl).alloc _)) (fun b hb => hb.imp id (fun e => by omega))
    have l9 : w3.heap.size ≤ wl.heap.size := by have := hkl.size; omega
    have l8 : w.heap.size < wl.heap.size := by omega
    refine hK.out _ _ ?_ (fun hHeld => ?_)
    ·(try dsimp only); exact HTR.out.tr hJl
    clear hK K
    (try simp only [Act.put, tkS])
    refine wpAnyH_ready (rs := [11]) (by kernel_rfl) (by simp) ?_
    refine AllReadyH.cons rfl (fun K hK => ?_) ?_
    rotate_left
    ·exact AllReadyH.nil
    go_simp
    refine hK.out _ _ ?_ (fun hHeld => ?_)
    ·(try dsimp only); exact HTR.out.tr hJ8
    clear hK K
    (try simp only [Act.put, tkS])
    generalize hwm : wl.alloc (.cells cZ 27) = wm at hk8 hr8 hJ8 ⊢
    clear hwm
    have hbz := blk_store hr8 Z
    obtain ⟨r0, r1, r2, r3, r4, r5, r6, r7, r8, r9, f0, f1, f2, f3, f4, f5, f6, f7, f8, f9⟩ := hr8.rf10
    obtain ⟨s0, s1, s2, s3, s4, s5, s6, s7, s8, s9⟩ := st10 (w := wm) (b := wl.heap.size) hr8 Z
    have HKS := Lib.hid (kp10 (w := wm) (b := wl.heap.size) Z)
    have HSS := Lib.hid (And.intro s0 (And.intro s1 (And.intro s2 (And.intro s3 (And.intro s4 (And.intro s5 (And.intro s6 (And.intro s7 (And.intro s8 s9)))))))))
    clear hr8 s0 s1 s2 s3 s4 s5 s6 s7 s8 s9
    have HKS2 := HKS.out
    have hJ9 := HTR.out.keeps hJ8 (HKS2.mono (fun i _ e => .inr e))
    have H9 := Lib.hid (And.intro hpl (And.intro hJ9 (And.intro (hk8.trans2 HKS2 (fun i hi e => absurd e (by omega))) hbz)))
    clear hpl hJ9 hk8 hbz HKS2 hJ8
    refine wpAnyH_ready (rs := [12]) (by kernel_rfl) (by simp) ?_
    refine AllReadyH.cons rfl (fun K hK => ?_) ?_
    rotate_left
    ·exact AllReadyH.nil
    go_simp
    refine hK.out _ _ ?_ (fun hHeld => ?_)
    ·(try dsimp only); exact HTR.out.tr H9.out.2.1
    clear hK K
    (try simp only [Act.put, tkS])
    refine wpAnyH_done (by kernel_rfl) ?_ _
    refine NoPanic.normal ?_
    go_step
    go_step
    go_meet
    exact ⟨wl.heap.size, gs, rfl, l8, H9.out.1, H9.out.2.1, H9.out.2.2.1, H9.out.2.2.2⟩
   ·go_simp
    have hJn8 : J (fun b => (E b ∨ b = w.heap.size) ∨ b = wn.heap.size) fs (wn.alloc (.cells cZ 27)) := HTR.out.mono (HTR.out.keeps (HTR.out.fresh hJn) ((Keeps.refl _ wn).alloc _)) (fun b hb => hb.imp id (fun e => by omega))
    refine hK.out _ _ ?_ (fun hHeld => ?_)
    ·(try dsimp only); exact HTR.out.tr hJn8
    clear hK K
    (try simp only [Act.put, tkS])
    refine wpAnyH_ready (rs := [10]) (by kernel_rfl) (by simp) ?_
    refine AllReadyH.cons rfl (fun K hK => ?_) ?_
    rotate_left
    ·exact AllReadyH.nil
    go_simp
    have hcall := HTR.out.leave i j hij hj noC (fun b => (E b ∨ b = w.heap.size) ∨ b = wn.heap.size) fs (wn.alloc (.cells cZ 27)) HCN.out hJn8 (fun b hb => by rw [World.size_alloc]; exact hb.elim (fun q => Nat.lt_succ_of_lt (Nat.lt_of_lt_of_le (HE1.out b q) ln)) (fun q => q ▸ Nat.lt_succ_self _))
    rw [← HZ.out.1, ← HNN.out] at hcall
    refine hcall.mono ?_
    rintro e wl ⟨gs, rfl, hpl, hJl, hkl⟩
    clear hcall
    unfold capV
    have hk8 : Keeps (fun b => Mt v b ∨ M2 b) w3 wl := ((hkn _).alloc _).trans hkl
    have hr8 : VRow wl wn.heap.size 10 27 (fun _ => .complex .f64 0 0) := ⟨(hkl.block _ (by simp) (fun e => by have := HLT3.out _ e; omega)).trans (VRow.new wn 10 27 (fun _ => .complex .f64 0 0)).heap⟩
    have hJ8 := hJl
    have l8 : w.heap.size < wn.heap.size := by omega
    have l9 : w3.heap.size ≤ wn.heap.size := ln
    refine hK.out _ _ ?_ (fun hHeld => ?_)
    ·(try dsimp only); exact HTR.out.tr hJl
    clear hK K
    (try simp only [Act.put, tkS])
    have hbz := blk_store hr8 Z
    obtain ⟨r0, r1, r2, r3, r4, r5, r6, r7, r8, r9, f0, f1, f2, f3, f4, f5, f6, f7, f8, f9⟩ := hr8.rf10
    obtain ⟨s0, s1, s2, s3, s4, s5, s6, s7, s8, s9⟩ := st10 (w := wl) (b := wn.heap.size) hr8 Z
    have HKS := Lib.hid (kp10 (w := wl) (b := wn.heap.size) Z)
    have HSS := Lib.hid (And.intro s0 (And.intro s1 (And.intro s2 (And.intro s3 (And.intro s4 (And.intro s5 (And.intro s6 (And.intro s7 (And.intro s8 s9)))))))))
    clear hr8 s0 s1 s2 s3 s4 s5 s6 s7 s8 s9
    have HKS2 := HKS.out
    have hJ9 := HTR.out.keeps hJ8 (HKS2.mono (fun i _ e => .inr e))
    have H9 := Lib.hid (And.intro hpl (And.intro hJ9 (And.intro (hk8.trans2 HKS2 (fun i hi e => absurd e (by omega))) hbz)))
    clear hpl hJ9 hk8 hbz HKS2 hJ8
    refine wpAnyH_ready (rs := [12]) (by kernel_rfl) (by simp) ?_
    refine AllReadyH.cons rfl (fun K hK => ?_) ?_
    rotate_left
    ·exact AllReadyH.nil
    go_simp
    refine hK.out _ _ ?_ (fun hHeld => ?_)
    ·(try dsimp only); exact HTR.out.tr H9.out.2.1
    clear hK K
    (try simp only [Act.put, tkS])
    refine wpAnyH_done (by kernel_rfl) ?_ _
    refine NoPanic.normal ?_
    go_step
    go_step
    go_meet
    exact ⟨wn.heap.size, gs, rfl, l8, H9.out.1, H9.out.2.1, H9.out.2.2.1, H9.out.2.2.2⟩
  ·go_simp
   refine hK.out _ _ ?_ (fun hHeld => ?_)
   ·(try dsimp only); exact (show TrAt w3 X v s from ⟨H3.out⟩).keeps (((Keeps.refl (fun _ => False) w3).alloc _).drew) id
   clear hK K
   (try simp only [Act.put, tkS])
   refine wpAnyH_ready (rs := [9]) (by kernel_rfl) (by simp) ?_
   refine AllReadyH.cons rfl (fun K hK => ?_) ?_
   rotate_left
   ·exact AllReadyH.nil
   go_simp
   refine (HN.out _).mono ?_
   rintro e wn ⟨rfl, hBn⟩
   have hkn : ∀ S, Keeps S w3 wn := fun S => by first | exact ((Keeps.refl S w3).drew.alloc _).trans (Keeps.of_below hBn) | exact ((Keeps.refl S w3).alloc _).drew.trans (Keeps.of_below hBn)
   have hr8 : VRow wn w3.heap.size 10 27 (fun _ => .complex .f64 0 0) := by first | exact (VRow.new w3.drew 10 27 (fun _ => .complex .f64 0 0)).below hBn (by simp) | exact ((VRow.new w3 10 27 (fun _ => .complex .f64 0 0)).drew).below hBn (by simp)
   have hJn := HTR.out.keeps (HTR.out.fresh H2.out.2.1) (hkn _)
   have ln := (hkn (fun _ => False)).size
   clear hBn
   refine hK.out _ _ ?_ (fun hHeld => ?_)
   ·(try dsimp only); exact HTR.out.tr hJn
   clear hK K
   (try simp only [Act.put, tkS])
   have hJn8 : J (fun b => (E b ∨ b = w.heap.size) ∨ b = w3.heap.size) fs wn := HTR.out.mono hJn (fun b hb => hb.imp id (fun e => by omega))
   refine wpAnyH_ready (rs := [10]) (by kernel_rfl) (by simp) ?_
   refine AllReadyH.cons rfl (fun K hK => ?_) ?_
   rotate_left
   ·exact AllReadyH.nil
   go_simp
   have hcall := HTR.out.leave i j hij hj noC (fun b => (E b ∨ b = w.heap.size) ∨ b = w3.heap.size) fs wn HCN.out hJn8 (fun b hb => hb.elim (fun q => Nat.lt_of_lt_of_le (HE1.out b q) ln) (fun q => q ▸ hr8.lt))
   rw [← HZ.out.1, ← HNN.out] at hcall
   refine hcall.mono ?_
   rintro e wl ⟨gs, rfl, hpl, hJl, hkl⟩
   clear hcall
   unfold capV
   have hk8 : Keeps (fun b => Mt v b ∨ M2 b) w3 wl := (hkn _).trans hkl
   have hr82 : VRow wl w3.heap.size 10 27 (fun _ => .complex .f64 0 0) := ⟨(hkl.block _ hr8.lt (fun e => by have := HLT3.out _ e; omega)).trans hr8.heap⟩
   have hJ8 := hJl
   clear hr8
   have hr8 := hr82
   clear hr82
   have l8 : w.heap.size < w3.heap.size := lw3
   refine hK.out _ _ ?_ (fun hHeld => ?_)
   ·(try dsimp only); exact HTR.out.tr hJl
   clear hK K
   (try simp only [Act.put, tkS])
   have hbz := blk_store hr8 Z
   obtain ⟨r0, r1, r2, r3, r4, r5, r6, r7, r8, r9, f0, f1, f2, f3, f4, f5, f6, f7, f8, f9⟩ := hr8.rf10
   obtain ⟨s0, s1, s2, s3, s4, s5, s6, s7, s8, s9⟩ := st10 (w := wl) (b := w3.heap.size) hr8 Z
   have HKS := Lib.hid (kp10 (w := wl) (b := w3.heap.size) Z)
   have HSS := Lib.hid (And.intro s0 (And.intro s1 (And.intro s2 (And.intro s3 (And.intro s4 (And.intro s5 (And.intro s6 (And.intro s7 (And.intro s8 s9)))))))))
   clear hr8 s0 s1 s2 s3 s4 s5 s6 s7 s8 s9
   have HKS2 := HKS.out
   have hJ9 := HTR.out.keeps hJ8 (HKS2.mono (fun i _ e => .inr e))
   have H9 := Lib.hid (And.intro hpl (And.intro hJ9 (And.intro (hk8.trans2 HKS2 (fun i hi e => absurd e (by omega))) hbz)))
   clear hpl hJ9 hk8 hbz HKS2 hJ8
   refine wpAnyH_ready (rs := [12]) (by kernel_rfl) (by simp) ?_
   refine AllReadyH.cons rfl (fun K hK => ?_) ?_
   rotate_left
   ·exact AllReadyH.nil
   go_simp
   refine hK.out _ _ ?_ (fun hHeld => ?_)
   ·(try dsimp only); exact HTR.out.tr H9.out.2.1
   clear hK K
   (try simp only [Act.put, tkS])
   refine wpAnyH_done (by kernel_rfl) ?_ _
   refine NoPanic.normal ?_
   go_step
   go_step
   go_meet
   exact ⟨w3.heap.size, gs, rfl, l8, H9.out.1, H9.out.2.1, H9.out.2.2.1, H9.out.2.2.2⟩
 case rest =>
  obtain ⟨B8, gs, rfl, l8, hpre8, hJ8, hk8, hb8⟩ := hcut
  obtain ⟨wb, rfl⟩ : ∃ wb, wb = wc := ⟨_, rfl⟩
  have HOF := Lib.hid (fun W => of_yes (i : Int) (j : Int) W (by omega) (by omega) (by omega))
  have hrz8 : VRow wb w.heap.size 10 27 (fun _ => .complex .f64 0 0) := ⟨(hk8.block _ hrz2.lt (fun e => by have := HLT.out _ e; omega)).trans hrz2.heap⟩
  have lb8 := hb8.lt
  have lb0 := hrz8.lt
  have hv8 : VRow wb B8 10 27 (fun i => spV (Z i)) := ⟨hb8.heap⟩
  obtain ⟨Z2, hZ2⟩ : ∃ Z2 : Cp, Z2 = (fun g => if g = 0 then some (i, j) else Z g) := ⟨_, rfl⟩
  have hw : wholeC s t i j = Z2 := by rw [hZ2, HZ.out.1]; rfl
  have hb9 : Blk (wb.setCell ⟨B8, 0, none⟩ (.complex .f64 (floatOfInt .f64 (i : Int)) (floatOfInt .f64 (j : Int)))) B8 (cH Z2) 27 := ⟨by rw [(hv8.set 0 (.complex .f64 (floatOfInt .f64 (i : Int)) (floatOfInt .f64 (j : Int)))).heap, hZ2]; rfl⟩
  have hr9 : VRow (wb.setCell ⟨B8, 0, none⟩ (.complex .f64 (floatOfInt .f64 (i : Int)) (floatOfInt .f64 (j : Int)))) w.heap.size 10 27 (fun _ => .complex .f64 0 0) := hrz8.other (by show w.heap.size ≠ B8; omega) _
  have hJ9 := HTR.out.keeps hJ8 ((Keeps.refl (fun b => (E b ∨ b = w.heap.size) ∨ b = B8) wb).setCell (p := ⟨B8, 0, none⟩) (.inr rfl) (.complex .f64 (floatOfInt .f64 (i : Int)) (floatOfInt .f64 (j : Int))))
  have hk9 : Keeps (fun b => Mt v b ∨ M2 b) w (wb.setCell ⟨B8, 0, none⟩ (.complex .f64 (floatOfInt .f64 (i : Int)) (floatOfInt .f64 (j : Int)))) := (H2.out.2.2.trans hk8).trans2 ((Keeps.refl (fun b => b = B8) wb).setCell (p := ⟨B8, 0, none⟩) rfl (.complex .f64 (floatOfInt .f64 (i : Int)) (floatOfInt .f64 (j : Int)))) (fun i hi e => absurd e (by omega))
  have hpre9 := H2.out.1.trans hpre8
  have q1 := hv8.cell 0 (by decide)
  have q2 := hv8.fz 0
  have HW := Lib.hid hw
  clear hw hZ2 hk8 hJ8 hb8 hrz8 hv8 hpre8
  go_wp2_with fail
  refine (HOF.out _).mono ?_
  rintro e wO ⟨rfl, rfl⟩
  go_upto_region 5 with fail
  generalize hwd : wb.setCell ⟨B8, 0, none⟩ (.complex .f64 (floatOfInt .f64 (i : Int)) (floatOfInt .f64 (j : Int))) = wd at hb9 hr9 hJ9 hk9 ⊢
  clear hwd q1 q2
  have k0 : wd.cell? ⟨B8, 0, none⟩ = some (spV (Z2 0)) := capBlk.at (had := Z2) hb9 0 (by decide)
  have k1 : wd.cell? ⟨B8, 1, none⟩ = some (spV (Z2 1)) := capBlk.at (had := Z2) hb9 1 (by decide)
  have k2 : wd.cell? ⟨B8, 2, none⟩ = some (spV (Z2 2)) := capBlk.at (had := Z2) hb9 2 (by decide)
  have k3 : wd.cell? ⟨B8, 3, none⟩ = some (spV (Z2 3)) := capBlk.at (had := Z2) hb9 3 (by decide)
  have k4 : wd.cell? ⟨B8, 4, none⟩ = some (spV (Z2 4)) := capBlk.at (had := Z2) hb9 4 (by decide)
  have k5 : wd.cell? ⟨B8, 5, none⟩ = some (spV (Z2 5)) := capBlk.at (had := Z2) hb9 5 (by decide)
  have k6 : wd.cell? ⟨B8, 6, none⟩ = some (spV (Z2 6)) := capBlk.at (had := Z2) hb9 6 (by decide)
  have k7 : wd.cell? ⟨B8, 7, none⟩ = some (spV (Z2 7)) := capBlk.at (had := Z2) hb9 7 (by decide)
  have k8 : wd.cell? ⟨B8, 8, none⟩ = some (spV (Z2 8)) := capBlk.at (had := Z2) hb9 8 (by decide)
  have k9 : wd.cell? ⟨B8, 9, none⟩ = some (spV (Z2 9)) := capBlk.at (had := Z2) hb9 9 (by decide)
  clear hb9
  have HFIN := Lib.hid (And.intro hpre9 (And.intro hJ9 hk9))
  clear hpre9 hJ9 hk9
  obtain ⟨r0, r1, r2, r3, r4, r5, r6, r7, r8, r9, f0, f1, f2, f3, f4, f5, f6, f7, f8, f9⟩ := hr9.rf10
  obtain ⟨s0, s1, s2, s3, s4, s5, s6, s7, s8, s9⟩ := st10 (w := wd) (b := w.heap.size) hr9 Z2
  have HKS := Lib.hid (kp10 (w := wd) (b := w.heap.size) Z2)
  have HSS := Lib.hid (And.intro s0 (And.intro s1 (And.intro s2 (And.intro s3 (And.intro s4 (And.intro s5 (And.intro s6 (And.intro s7 (And.intro s8 s9)))))))))
  clear hr9 s0 s1 s2 s3 s4 s5 s6 s7 s8 s9
  go_wp2
  obtain ⟨s0, s1, s2, s3, s4, s5, s6, s7, s8, s9⟩ := HSS.out
  first
  | refine bodyPost_ret (v := .tuple #[.agg (cH Z2), .bool true]) (by simp [results, Tryz.results34, go_sem, s0, s1, s2, s3, s4, s5, s6, s7, s8, s9]) rfl ⟨gs, ?_, HFIN.out.1, HTR.out.mono (HTR.out.keeps HFIN.out.2.1 (HKS.out.mono (fun i _ e => .inl (.inr e)))) (fun b hb => .inl (.inl hb)), HFIN.out.2.2.trans2 HKS.out (fun i hi e => absurd e (by omega))⟩
  | refine bodyPost_ret (v := .tuple #[.agg (cH Z2), .bool true]) (by simp [results, Tryz.results34, go_sem, s0, s1, s2, s3, s4, s5, s6, s7, s8, s9]) rfl ⟨?_, gs, HFIN.out.1, HTR.out.mono (HTR.out.keeps HFIN.out.2.1 (HKS.out.mono (fun i _ e => .inl (.inr e)))) (fun b hb => .inl (.inl hb)), HFIN.out.2.2.trans2 HKS.out (fun i hi e => absurd e (by omega))⟩
  show Ending.returned (.tuple #[capV Z2, .bool true]) = Ending.returned (.tuple #[capV (wholeC s t i j), .bool true])
  rw [HW.out]
end
end Go.Proofs.YtibkllialokdeaaGreatDoor
namespace Go.Proofs.YtibkllialokdeaaGreatDoor
open Go.RowKit Go.Maps Go.WideMaps
def whR (s : List UInt8) (t : T) (i j : Nat) : Bool := decide (i ≤ j) && (semT s t).ends i 0 noC j
def whC (s : List UInt8) (t : T) (i j : Nat) : Cp := if whR s t i j = true then wholeC s t i j else noC
theorem whole_c {X : Nat} {v : TrV} {s : List UInt8} {t : T} {M2 : Nat → Prop} {J : (Nat → Prop) → List Lit → World → Prop} (tr : Trial X v s t M2 J) (i j : Nat) (hi : i ≤ s.length) (hj : j ≤ s.length) (E : Nat → Prop) (es : List Lit) (w : World) (hJ : J E es w) (hE : ∀ b, E b → b < w.heap.size) :
  Calls Tryz.prog 34 #[.pointer (some ⟨X, 0, none⟩), .int .i64 i, .int .i64 j] w fun e w' => ∃ fs : List Lit, e = .returned (.tuple #[capV (whC s t i j), .bool (whR s t i j)]) ∧ es <+: fs ∧ J E fs w' ∧ Keeps (fun b => Mt v b ∨ M2 b) w w' := by
 unfold whC
 by_cases hij : i ≤ j
 ·cases hr : (semT s t).ends i 0 noC j with
  | true =>
   have e : whR s t i j = true := by unfold whR; rw [hr]; simp [hij]
   rw [e, if_pos rfl]
   exact whole_yes tr i j hij hj hr E es w hJ hE
  | false =>
   have e : whR s t i j = false := by unfold whR; rw [hr]; simp
   rw [e, if_neg (by simp)]
   exact whole_no tr i j hij hj hr E es w hJ hE
 ·have e : whR s t i j = false := by unfold whR; simp [hij]
  rw [e, if_neg (by simp)]
  exact whole_lt tr i hi j (by omega) E es w hJ hE
theorem tab_below {w w' : World} {B : Nat} (h : TabAt 0 Lib.deBruijn64tab w) (hB : Below B w w') (h0 : 0 < B) : TabAt 0 Lib.deBruijn64tab w' := fun j hj => by
 have e := hB.block 0 h0
 have := h j hj
 rw [← this]
 simp only [World.cell?, e]
theorem Whole_c (lb lo lc : Nat) (s : List UInt8) (xs : List Nd) (t : T) (hp : IsPat xs t) (hfit : ∀ (i : Nat) (x : Nd), xs[i]? = some x → x.Fits) (hsl : s.length ≤ 255) (hsm : 0 < t.refs → s.length ≤ 6 ∧ xs.length ≤ 24) (i j : Nat) (hi : i ≤ s.length) (hj : j ≤ s.length) (w : World) (hx : NodesAt w lb lo xs) (hT : TabAt 0 Lib.deBruijn64tab w) (h0 : 0 < w.heap.size) :
  Calls Tryz.prog 11 #[.slice (some ⟨lb, lo, none⟩) xs.length lc, .string ⟨s.toArray⟩, .int .i64 i, .int .i64 j] w fun e w' => e = .returned (.tuple #[capV (whC s t i j), .bool (whR s t i j)]) ∧ Below w.heap.size w w' := by
 have h1 : 1 ≤ xs.length := by have := t.size_pos; have := hp.2.2.1; omega
 have h2 := hp.2.2.2.1
 have lx := hx.lt
 have HM := Lib.hid (fun (W : World) (h : NodesAt W lb lo xs) => may_in lb lo xs.length lc xs rfl h1 h2 hfit true ⟨fun _ => ⟨t, hp⟩, fun _ => rfl⟩ W h)
 have HP1 : Hid (∀ W, Calls Tryz.prog 32 #[.string ⟨s.toArray⟩, .int .i64 i] W fun e w' => e = .returned (.bool true) ∧ w' = W) := Lib.hid (fun W => by
  have := isplace_c s i W
  rw [decide_eq_true (show (0 : Int) ≤ (i : Int) ∧ (i : Int) ≤ s.length by omega)] at this
  exact this)
 have HP2 : Hid (∀ W, Calls Tryz.prog 32 #[.string ⟨s.toArray⟩, .int .i64 j] W fun e w' => e = .returned (.bool true) ∧ w' = W) := Lib.hid (fun W => by
  have := isplace_c s j W
  rw [decide_eq_true (show (0 : Int) ≤ (j : Int) ∧ (j : Int) ≤ s.length by omega)] at this
  exact this)
 have HN := Lib.hid (fun (W : World) (h : NodesAt W lb lo xs) (hT : TabAt 0 Lib.deBruijn64tab W) (h0 : 0 < W.heap.size) => newtrial_c lb lo lc s xs t hp hfit hsl hsm W h hT h0)
 have HX := Lib.hid (And.intro hx (And.intro hT h0))
 have hrz : VRow (w.alloc (.cells cZ 27)) w.heap.size 10 27 (fun _ => .complex .f64 0 0) := VRow.new w 10 27 (fun _ => .complex .f64 0 0)
 have hb0 : Below w.heap.size w (w.alloc (.cells cZ 27)) := (Below.refl _ w).alloc (Nat.le_refl _) _
 have HZ0 := Lib.hid (And.intro hrz hb0)
 obtain ⟨Z, hZ⟩ : ∃ Z, Z = whC s t i j := ⟨_, rfl⟩
 obtain ⟨r, hr⟩ : ∃ r, r = whR s t i j := ⟨_, rfl⟩
 rw [← hZ, ← hr]
 have HZR := Lib.hid (And.intro hZ hr)
 clear hx hT hp hfit hsl hsm hrz hb0 hZ hr
 go_enter Tryz.func11, Tryz.ntmps11
 go_wp2_with fail
 refine (HM.out _ (HX.out.1.below HZ0.out.2 lx)).mono ?_
 rintro e w1 ⟨rfl, hB1⟩
 have lz := hB1.size
 have lw1 : w.heap.size < w1.heap.size := by simp at lz; omega
 have hB01 : Below w.heap.size w w1 := HZ0.out.2.trans (hB1.mono (by simp))
 have hrz1 : VRow w1 w.heap.size 10 27 (fun _ => .complex .f64 0 0) := HZ0.out.1.below hB1 (by simp)
 have H1 := Lib.hid (And.intro hB01 hrz1)
 clear hB1 hB01 hrz1 lz
 go_wp2_with fail
 refine (HP1.out _).mono ?_
 rintro e w2 ⟨rfl, rfl⟩
 go_wp2_with fail
 refine (HP2.out _).mono ?_
 rintro e w3 ⟨rfl, rfl⟩
 go_wp2_with fail
 refine (HN.out _ (HX.out.1.below H1.out.1 lx) (tab_below HX.out.2.1 H1.out.1 HX.out.2.2) (by omega)).mono ?_
 rintro e w4 ⟨X, v, M2, J, rfl, tr, hJ, hge, hB4⟩
 have hcall := whole_c tr i j hi hj _ [] w4 hJ (fun b hb => hb.elim)
 rw [← HZR.out.1, ← HZR.out.2] at hcall
 have HCALL := Lib.hid hcall
 have H4 := Lib.hid (And.intro hge hB4)
 have lw4 := hB4.size
 clear hcall hge hB4 tr hJ
 go_wp2_with fail
 refine HCALL.out.mono ?_
 rintro e w5 ⟨fs, rfl, _, _, hk5⟩
 have hB5 : Below w3.heap.size w3 w5 := H4.out.2.trans (hk5.below lw4 H4.out.1)
 have hr5 : VRow w5 w.heap.size 10 27 (fun _ => .complex .f64 0 0) := H1.out.2.below hB5 lw1
 have lw5 := hB5.size
 have HB5 := Lib.hid hB5
 clear hk5 hB5 HCALL
 unfold capV
 obtain ⟨r0, r1, r2, r3, r4, r5, r6, r7, r8, r9, f0, f1, f2, f3, f4, f5, f6, f7, f8, f9⟩ := hr5.rf10
 obtain ⟨s0, s1, s2, s3, s4, s5, s6, s7, s8, s9⟩ := st10 (w := w5) (b := w.heap.size) hr5 Z
 have HKS := Lib.hid (kp10 (w := w5) (b := w.heap.size) Z)
 have HSS := Lib.hid (And.intro s0 (And.intro s1 (And.intro s2 (And.intro s3 (And.intro s4 (And.intro s5 (And.intro s6 (And.intro s7 (And.intro s8 s9)))))))))
 clear hr5 s0 s1 s2 s3 s4 s5 s6 s7 s8 s9
 go_wp2
 obtain ⟨s0, s1, s2, s3, s4, s5, s6, s7, s8, s9⟩ := HSS.out
 refine bodyPost_ret (v := .tuple #[.agg (cH Z), .bool r]) (by simp [results, Tryz.results11, go_sem, s0, s1, s2, s3, s4, s5, s6, s7, s8, s9]) rfl ⟨rfl, ?_⟩
 exact ((H1.out.1.trans (HB5.out.mono (by omega))).trans (HKS.out.below (by omega) (fun i e => by subst e; exact Nat.le_refl _)))
end Go.Proofs.YtibkllialokdeaaGreatDoor
namespace Go.Proofs.YtibkllialokdeaaGreatDoor
open Go.RowKit Go.Maps Go.WideMaps
def lgR (s : List UInt8) (t : T) (i : Nat) : Option Nat := greatest i (fun j => (semT s t).ends i 0 noC j) s.length
def lgC (s : List UInt8) (t : T) (i : Nat) : Cp := match lgR s t i with | some k => wholeC s t i k | none => noC
theorem Longest_c (lb lo lc : Nat) (s : List UInt8) (xs : List Nd) (t : T) (hp : IsPat xs t) (hfit : ∀ (i : Nat) (x : Nd), xs[i]? = some x → x.Fits) (hsl : s.length ≤ 255) (hsm : 0 < t.refs → s.length ≤ 6 ∧ xs.length ≤ 24) (i : Nat) (hi : i ≤ s.length) (w : World) (hx : NodesAt w lb lo xs) (hT : TabAt 0 Lib.deBruijn64tab w) (h0 : 0 < w.heap.size) :
  Calls Tryz.prog 18 #[.slice (some ⟨lb, lo, none⟩) xs.length lc, .string ⟨s.toArray⟩, .int .i64 i] w fun e w' => e = .returned (.tuple #[capV (lgC s t i), .bool (lgR s t i).isSome]) ∧ Below w.heap.size w w' := by
 have h1 : 1 ≤ xs.length := by have := t.size_pos; have := hp.2.2.1; omega
 have h2 := hp.2.2.2.1
 have lx := hx.lt
 have hsz : (⟨s.toArray⟩ : ByteArray).size = s.length := by simp [ByteArray.size]
 have HM := Lib.hid (fun (W : World) (h : NodesAt W lb lo xs) => may_in lb lo xs.length lc xs rfl h1 h2 hfit true ⟨fun _ => ⟨t, hp⟩, fun _ => rfl⟩ W h)
 have HP1 : Hid (∀ W, Calls Tryz.prog 32 #[.string ⟨s.toArray⟩, .int .i64 i] W fun e w' => e = .returned (.bool true) ∧ w' = W) := Lib.hid (fun W => by
  have := isplace_c s i W
  rw [decide_eq_true (show (0 : Int) ≤ (i : Int) ∧ (i : Int) ≤ s.length by omega)] at this
  exact this)
 have HN := Lib.hid (fun (W : World) (h : NodesAt W lb lo xs) (hT : TabAt 0 Lib.deBruijn64tab W) (h0 : 0 < W.heap.size) => newtrial_c lb lo lc s xs t hp hfit hsl hsm W h hT h0)
 have HX := Lib.hid (And.intro hx (And.intro hT h0))
 have hrz : VRow (w.alloc (.cells cZ 27)) w.heap.size 10 27 (fun _ => .complex .f64 0 0) := VRow.new w 10 27 (fun _ => .complex .f64 0 0)
 have hb0 : Below w.heap.size w (w.alloc (.cells cZ 27)) := (Below.refl _ w).alloc (Nat.le_refl _) _
 have HZ0 := Lib.hid (And.intro hrz hb0)
 clear hx hT hp hfit hsm hrz hb0
 go_enter Tryz.func18, Tryz.ntmps18
 go_wp2_with fail
 refine (HM.out _ (HX.out.1.below HZ0.out.2 lx)).mono ?_
 rintro e w1 ⟨rfl, hB1⟩
 have lz := hB1.size
 have lw1 : w.heap.size < w1.heap.size := by simp at lz; omega
 have hB01 : Below w.heap.size w w1 := HZ0.out.2.trans (hB1.mono (by simp))
 have hrz1 : VRow w1 w.heap.size 10 27 (fun _ => .complex .f64 0 0) := HZ0.out.1.below hB1 (by simp)
 have H1 := Lib.hid (And.intro hB01 hrz1)
 clear hB1 hB01 hrz1 lz
 go_wp2_with fail
 refine (HP1.out _).mono ?_
 rintro e w2 ⟨rfl, rfl⟩
 go_wp2_with fail
 refine (HN.out _ (HX.out.1.below H1.out.1 lx) (tab_below HX.out.2.1 H1.out.1 HX.out.2.2) (by omega)).mono ?_
 rintro e w4 ⟨X, v, M2, J, rfl, tr, hJ, hge, hB4⟩
 have HALL := Lib.hid (all_c tr i hi _ [] w4 hJ (fun b hb => hb.elim))
 have H4 := Lib.hid (And.intro hge hB4)
 have HTR := Lib.hid tr
 have lw4 := hB4.size
 clear hge hB4 tr hJ
 go_wp2_with fail
 refine HALL.out.mono ?_
 rintro e w6 ⟨b, fs, rfl, hrow, _, _, _, hJ6, hk6⟩
 have HUP := Lib.hid (upto_m b (s.length / 64 + 1) (s.length / 64 + 1) s.length _ (by omega) (by omega) w6 hrow)
 have H6 := Lib.hid (And.intro (H4.out.2.trans (hk6.below lw4 H4.out.1)) hJ6)
 have lw6 := hk6.size
 clear hrow hk6 hJ6 HALL
 unfold PV
 go_wp2_with fail
 refine HUP.out.mono ?_
 rintro e w7 ⟨⟨r, rfl, hr⟩, rfl⟩
 clear HUP
 rcases hr with ⟨rfl, hz⟩ | ⟨k, rfl, hk1, hk2, hk3⟩
 ·have hg : lgR s t i = none := great_no (fun j h1 h2 => hz j (by omega))
  have hcall := whole_lt HTR.out i hi (-1) (by omega) _ fs w7 H6.out.2 (fun b hb => hb.elim)
  obtain ⟨Z, hZ⟩ : ∃ Z, Z = noC := ⟨_, rfl⟩
  rw [← hZ] at hcall
  have HZ : Hid (Z = lgC s t i ∧ false = (lgR s t i).isSome) := Lib.hid ⟨by unfold lgC; rw [hg]; exact hZ, by rw [hg]; rfl⟩
  have HCALL := Lib.hid hcall
  clear hcall hZ hz hg
  go_wp2_with fail
  refine HCALL.out.mono ?_
  rintro e w5 ⟨gs, rfl, _, _, hk5⟩
  have hB5 : Below w2.heap.size w2 w5 := H6.out.1.trans (hk5.below (by have := H6.out.1.size; omega) H4.out.1 |>.mono (by omega))
  have hr5 : VRow w5 w.heap.size 10 27 (fun _ => .complex .f64 0 0) := H1.out.2.below hB5 lw1
  have lw5 := hB5.size
  have HB5 := Lib.hid hB5
  clear hk5 hB5 HCALL
  unfold capV
  obtain ⟨r0, r1, r2, r3, r4, r5, r6, r7, r8, r9, f0, f1, f2, f3, f4, f5, f6, f7, f8, f9⟩ := hr5.rf10
  obtain ⟨s0, s1, s2, s3, s4, s5, s6, s7, s8, s9⟩ := st10 (w := w5) (b := w.heap.size) hr5 Z
  have HKS := Lib.hid (kp10 (w := w5) (b := w.heap.size) Z)
  have HSS := Lib.hid (And.intro s0 (And.intro s1 (And.intro s2 (And.intro s3 (And.intro s4 (And.intro s5 (And.intro s6 (And.intro s7 (And.intro s8 s9)))))))))
  clear hr5 s0 s1 s2 s3 s4 s5 s6 s7 s8 s9
  go_wp2
  obtain ⟨s0, s1, s2, s3, s4, s5, s6, s7, s8, s9⟩ := HSS.out
  refine bodyPost_ret (v := .tuple #[.agg (cH Z), .bool false]) (by simp [results, Tryz.results18, go_sem, s0, s1, s2, s3, s4, s5, s6, s7, s8, s9]) rfl ⟨?_, ?_⟩
  ·show Ending.returned (.tuple #[capV Z, .bool false]) = Ending.returned (.tuple #[capV (lgC s t i), .bool (lgR s t i).isSome])
   rw [HZ.out.1, HZ.out.2]
  exact ((H1.out.1.trans (HB5.out.mono (by omega))).trans (HKS.out.below (by omega) (fun i e => by subst e; exact Nat.le_refl _)))
 ·have hle := HTR.out.ok.le i 0 noC k (fun g a b e => by cases e) hi hk2
  have hg : lgR s t i = some k := great_at hle.1 hle.2 hk2 (fun j h1 h2 => hk3 j h1 (by omega))
  have hcall := whole_yes HTR.out i k hle.1 hle.2 hk2 _ fs w7 H6.out.2 (fun b hb => hb.elim)
  obtain ⟨Z, hZ⟩ : ∃ Z, Z = wholeC s t i k := ⟨_, rfl⟩
  rw [← hZ] at hcall
  have HZ : Hid (Z = lgC s t i ∧ true = (lgR s t i).isSome) := Lib.hid ⟨by unfold lgC; rw [hg]; exact hZ, by rw [hg]; rfl⟩
  have HCALL := Lib.hid hcall
  clear hcall hZ hk1 hk2 hk3 hg hle
  go_wp2_with fail
  refine HCALL.out.mono ?_
  rintro e w5 ⟨gs, rfl, _, _, hk5⟩
  have hB5 : Below w2.heap.size w2 w5 := H6.out.1.trans (hk5.below (by have := H6.out.1.size; omega) H4.out.1 |>.mono (by omega))
  have hr5 : VRow w5 w.heap.size 10 27 (fun _ => .complex .f64 0 0) := H1.out.2.below hB5 lw1
  have lw5 := hB5.size
  have HB5 := Lib.hid hB5
  clear hk5 hB5 HCALL
  unfold capV
  obtain ⟨r0, r1, r2, r3, r4, r5, r6, r7, r8, r9, f0, f1, f2, f3, f4, f5, f6, f7, f8, f9⟩ := hr5.rf10
  obtain ⟨s0, s1, s2, s3, s4, s5, s6, s7, s8, s9⟩ := st10 (w := w5) (b := w.heap.size) hr5 Z
  have HKS := Lib.hid (kp10 (w := w5) (b := w.heap.size) Z)
  have HSS := Lib.hid (And.intro s0 (And.intro s1 (And.intro s2 (And.intro s3 (And.intro s4 (And.intro s5 (And.intro s6 (And.intro s7 (And.intro s8 s9)))))))))
  clear hr5 s0 s1 s2 s3 s4 s5 s6 s7 s8 s9
  go_wp2
  obtain ⟨s0, s1, s2, s3, s4, s5, s6, s7, s8, s9⟩ := HSS.out
  refine bodyPost_ret (v := .tuple #[.agg (cH Z), .bool true]) (by simp [results, Tryz.results18, go_sem, s0, s1, s2, s3, s4, s5, s6, s7, s8, s9]) rfl ⟨?_, ?_⟩
  ·show Ending.returned (.tuple #[capV Z, .bool true]) = Ending.returned (.tuple #[capV (lgC s t i), .bool (lgR s t i).isSome])
   rw [HZ.out.1, HZ.out.2]
  exact ((H1.out.1.trans (HB5.out.mono (by omega))).trans (HKS.out.below (by omega) (fun i e => by subst e; exact Nat.le_refl _)))
end Go.Proofs.YtibkllialokdeaaGreatDoor
namespace Go.Proofs.YtibkllialokdeaaGreatDoor
open Go.RowKit Go.Maps Go.WideMaps
def endsF (f : Nat → Bool) : Nat → Nat → List Nat
 | 0, _ => []
 | d + 1, k => if f k then k :: endsF f d (k + 1) else endsF f d (k + 1)
def endsL (f : Nat → Bool) (n k : Nat) : List Nat := endsF f (n + 1 - k) k
theorem endsF_none {f : Nat → Bool} : ∀ (d k : Nat), (∀ j, k ≤ j → f j = false) → endsF f d k = []
 | 0, _, _ => rfl
 | d + 1, k, h => by
  rw [endsF, if_neg (by rw [h k (Nat.le_refl _)]; simp)]
  exact endsF_none d (k + 1) (fun j hj => h j (by omega))
theorem endsL_some {f : Nat → Bool} {n k : Nat} (hk : k ≤ n) (hf : f k = true) : ∀ (m k0 : Nat), k0 + m = k → (∀ j, k0 ≤ j → j < k → f j = false) → endsL f n k0 = k :: endsL f n (k + 1)
 | 0, k0, e, h => by
  have e' : k0 = k := by omega
  subst e'
  unfold endsL
  rw [show n + 1 - k0 = (n + 1 - (k0 + 1)) + 1 by omega, endsF, if_pos hf]
 | m + 1, k0, e, h => by
  have := endsL_some hk hf m (k0 + 1) (by omega) (fun j h1 h2 => h j (by omega) h2)
  rw [← this]
  unfold endsL
  rw [show n + 1 - k0 = (n + 1 - (k0 + 1)) + 1 by omega, endsF, if_neg (by rw [h k0 (Nat.le_refl _) (by omega)]; simp)]
theorem endsF_len {f : Nat → Bool} : ∀ (d k : Nat), (endsF f d k).length ≤ d
 | 0, _ => Nat.le_refl _
 | d + 1, k => by
  have := endsF_len (f := f) d (k + 1)
  rw [endsF]
  split
  ·simp; omega
  ·omega
def ivals (l : List Nat) : List Value := l.map fun (k : Nat) => Value.int .i64 (k : Int)
theorem owns_base {w : World} {b b' : Nat} {e : TypeId} {sz n : Nat} {v : Value} {xs : List Value} (h : w.ownsRow b e sz v n xs) (hb : b' ≤ b) : w.ownsRow b' e sz v n xs :=
 ⟨h.1, h.2.imp id (fun ⟨g, cap, cur, e, hg, r⟩ => ⟨g, cap, cur, e, Nat.le_trans hb hg, r⟩)⟩
theorem Ends_c (lb lo lc : Nat) (s : List UInt8) (xs : List Nd) (t : T) (hp : IsPat xs t) (hfit : ∀ (i : Nat) (x : Nd), xs[i]? = some x → x.Fits) (hsl : s.length ≤ 255) (hsm : 0 < t.refs → s.length ≤ 6 ∧ xs.length ≤ 24) (i : Nat) (hi : i ≤ s.length) (w : World) (hx : NodesAt w lb lo xs) (hT : TabAt 0 Lib.deBruijn64tab w) (h0 : 0 < w.heap.size) :
  Calls Tryz.prog 21 #[.slice (some ⟨lb, lo, none⟩) xs.length lc, .string ⟨s.toArray⟩, .int .i64 i] w fun e w' => ∃ val : Value, e = .returned val ∧ w'.ownsRow w.heap.size 3 1 val (endsL (fun j => (semT s t).ends i 0 noC j) s.length i).length (ivals (endsL (fun j => (semT s t).ends i 0 noC j) s.length i)) ∧ Below w.heap.size w w' := by
 have h1 : 1 ≤ xs.length := by have := t.size_pos; have := hp.2.2.1; omega
 have h2 := hp.2.2.2.1
 have lx := hx.lt
 obtain ⟨i0, hii, hz0, hz1, hz2⟩ := info_parts infoI
 have HM := Lib.hid (fun (W : World) (h : NodesAt W lb lo xs) => may_in lb lo xs.length lc xs rfl h1 h2 hfit true ⟨fun _ => ⟨t, hp⟩, fun _ => rfl⟩ W h)
 have HP1 : Hid (∀ W, Calls Tryz.prog 32 #[.string ⟨s.toArray⟩, .int .i64 i] W fun e w' => e = .returned (.bool true) ∧ w' = W) := Lib.hid (fun W => by
  have := isplace_c s i W
  rw [decide_eq_true (show (0 : Int) ≤ (i : Int) ∧ (i : Int) ≤ s.length by omega)] at this
  exact this)
 have HN := Lib.hid (fun (W : World) (h : NodesAt W lb lo xs) (hT : TabAt 0 Lib.deBruijn64tab W) (h0 : 0 < W.heap.size) => newtrial_c lb lo lc s xs t hp hfit hsl hsm W h hT h0)
 have HX := Lib.hid (And.intro hx (And.intro hT h0))
 have hsk := sem_ok s t (lok_mok t (ok_lok t hp.1)).1
 obtain ⟨f, hf⟩ : ∃ f : Nat → Bool, f = fun j => (semT s t).ends i 0 noC j := ⟨_, rfl⟩
 have hff : ∀ j, s.length < j → f j = false := fun j hj => by
  rw [Bool.eq_false_iff]
  intro e
  rw [hf] at e
  have := (hsk.le i 0 noC j (fun g a b e => by cases e) hi e).2
  omega
 rw [← hf]
 have HF := Lib.hid (And.intro hf hff)
 have HI := Lib.hid (And.intro hii (And.intro hz0 (And.intro hz1 hz2)))
 clear hx hT hp hfit hsm hsk hf hff
 go_enter Tryz.func21, Tryz.ntmps21
 go_wp2_with fail
 refine (HM.out _ HX.out.1).mono ?_
 rintro e w1 ⟨rfl, hB1⟩
 have lw1 := hB1.size
 have H1 := Lib.hid hB1
 clear hB1
 go_wp2_with fail
 refine (HP1.out _).mono ?_
 rintro e w2 ⟨rfl, rfl⟩
 go_wp2_with fail
 refine (HN.out _ (HX.out.1.below H1.out lx) (tab_below HX.out.2.1 H1.out HX.out.2.2) (by omega)).mono ?_
 rintro e w4 ⟨X, v, M2, J, rfl, tr, hJ, hge, hB4⟩
 have HALL := Lib.hid (all_c tr i hi _ [] w4 hJ (fun b hb => hb.elim))
 have H4 := Lib.hid (And.intro hge hB4)
 have HTR := Lib.hid tr
 have lw4 := hB4.size
 clear hge hB4 tr hJ
 go_wp2_with fail
 refine HALL.out.mono ?_
 rintro e w6 ⟨b, fs, rfl, hrow, _, _, _, hJ6, hk6⟩
 have hT6 := HTR.out.tab hJ6
 rw [show (fun j => (semT s t).ends i 0 noC j) = f from HF.out.1.symm] at hrow
 have HFR := Lib.hid (fun (q : Nat) (hq : q ≤ 1000000000) (W : World) (hT : TabAt 0 Lib.deBruijn64tab W) (h : PRow W b (s.length / 64 + 1) f) => from_m b (s.length / 64 + 1) (s.length / 64 + 1) q _ (by omega) hq (fun i hi => HF.out.2 i (by omega)) W hT h)
 have HFR0 := Lib.hid (HFR.out i (by omega) w6 hT6 hrow)
 have hB6 : Below w.heap.size w w6 := H1.out.trans ((H4.out.2.trans (hk6.below lw4 H4.out.1)).mono lw1)
 have H6 := Lib.hid (And.intro hrow (And.intro hT6 hB6))
 have lb6 := hrow.lt
 have lw6 := hB6.size
 clear hrow hk6 hJ6 HALL hT6 hB6
 unfold PV
 go_wp2_with fail
 refine HFR0.out.mono ?_
 rintro e w7 ⟨⟨r, rfl, hr⟩, rfl⟩
 have HR := Lib.hid hr
 clear hr HFR0
 go_wp2
 go_loopw [7, 9] (fun tv rv wr => ∃ (val : Value) (out : List Nat) (r : Int) (k0 : Nat), tv = val ∧ rv = .int .i64 r ∧ i ≤ k0 ∧ k0 ≤ s.length + 1 ∧ IsFrom f k0 r ∧ endsL f s.length i = out ++ endsL f s.length k0 ∧ wr.ownsRow w7.heap.size 3 1 val out.length (ivals out) ∧ Below w7.heap.size w7 wr) (fun _ rv _ => msr s.length (RowKit.intOf rv))
 case atStart => exact ⟨_, [], r, i, rfl, rfl, Nat.le_refl _, by omega, HR.out, rfl, World.ownsRow_nil w7 _ _ _, Below.refl _ _⟩
 case round =>
  obtain ⟨val, out, r2, k0, rfl, rfl, hk0, hk1, hr2, hout, hown, hB⟩ := hrel
  have lB := hB.size
  rcases hr2 with ⟨rfl, hz⟩ | ⟨k, rfl, q1, q2, q3⟩
  ·have hlist : endsL f s.length i = out := by
    rw [hout]
    unfold endsL
    rw [endsF_none _ _ hz, List.append_nil]
   have HL := Lib.hid (And.intro hlist (And.intro hown hB))
   clear hlist hown hB hout hz
   go_wp2
   go_ret
   exact ⟨_, rfl, by rw [HL.out.1]; exact owns_base HL.out.2.1 lw6, H6.out.2.2.trans (HL.out.2.2.mono lw6)⟩
  ·have hkn : k ≤ s.length := by
    rcases Nat.lt_or_ge s.length k with q | q
    ·have := HF.out.2 k q; rw [this] at q2; cases q2
    ·exact q
   have hlen : out.length ≤ s.length + 1 := by
    have h3 := endsF_len (f := f) (s.length + 1 - i) i
    have h4 : (endsL f s.length i).length = out.length + (endsL f s.length k0).length := by rw [hout, List.length_append]
    unfold endsL at h4
    omega
   have hnx := endsL_some hkn q2 (k - k0) k0 (by omega) q3
   have hout2 : endsL f s.length i = (out ++ [k]) ++ endsL f s.length (k + 1) := by rw [hout, hnx]; simp
   have HO := Lib.hid (And.intro hout2 hB)
   have h0k : (0 : Int) ≤ (k : Int) := by omega
   obtain ⟨hii, hz0, hz1, hz2⟩ := HI.out
   clear hnx hout hout2 q2 q3
   go_wp2_with (at_builtin; refine wpList_append_own _ rfl _ _ 43 rfl w7.heap.size 3 i0 (.int .i64 0) 1 8 Tryz.underlying43 hii hz0 hz1 hz2 rfl (by decide) _ _ _ rfl (hown.alloc _) ⟨wr.heap.size, 0, none⟩ 1 1 [.int .i64 (k : Int)] rfl rfl ?qc2 ?qc3 ?qc4 ?qc5 ?qc6 ?_)
   case qc2 =>
    intro j u hj
    rw [Addr.add_lit, Nat.zero_add]
    cases j with
    | zero =>
     simp at hj
     subst hj
     exact (Blk.new wr #[.int .i64 (k : Int)] 3).cell 0
    | succ j => simp at hj
   case qc3 =>
    intro u hu
    simp at hu
    subst hu
    rfl
   case qc4 => unfold maxLen; omega
   case qc5 => omega
   case qc6 => simp; omega
   intro v' w8 hown1 hgrow hnil
   have hB1 : Below w7.heap.size w7 w8 := (HO.out.2.alloc (by omega) _).grown hgrow (by simp; omega) (fun k hk => (hown.lt k hk).1)
   have lB8 := hB1.size
   have HFK := HFR.out (k + 1) (by omega) w8 (tab_below H6.out.2.1 hB1 (by omega)) (H6.out.1.below hB1 lb6)
   rw [show ((k + 1 : Nat) : Int) = (k : Int) + 1 from by omega] at HFK
   have HFK := Lib.hid HFK
   have H8 := Lib.hid (And.intro hown1 hB1)
   clear hown1 hgrow hnil hB1 hii hz0 hz1 hz2 hown hB
   go_wp2_with fail
   refine HFK.out.mono ?_
   rintro e w9 ⟨⟨r3, rfl, hr3⟩, rfl⟩
   have hr4 : r3 = -1 ∨ (k : Int) + 1 ≤ r3 := by
    rcases hr3 with ⟨e, _⟩ | ⟨k', e, h, _⟩
    ·exact .inl e
    ·exact .inr (by omega)
   have HR3 := Lib.hid hr3
   clear hr3 HFK
   go_wp2
   go_roundw
   case rel =>
    refine ⟨v', out ++ [k], r3, k + 1, rfl, rfl, by omega, by omega, HR3.out, HO.out.1, ?_, H8.out.2⟩
    have := H8.out.1
    rw [show (out ++ [k]).length = out.length + 1 by simp, show ivals (out ++ [k]) = ivals out ++ [.int .i64 (k : Int)] by simp [ivals]]
    exact this
   case measure => exact msr_lt hkn hr4
end Go.Proofs.YtibkllialokdeaaGreatDoor
