/- A trial: whole, where it fits. -/
import Derived.Test.YtgllmhheahlpjaaGreatDoorJMdB
import Derived.Test.YtgllmhheahlpjaaGreatDoorJSpanC
import Derived.Deep.CutBlock
import Derived.Test.YtgllmhheahlpjaaGreatDoorJMbO
import Derived.Test.YtgllmhheahlpjaaGreatDoorJMbS
import Derived.Test.YtgllmhheahlpjaaGreatDoorJRxTr
import Derived.Test.YtgllmhheahlpjaaGreatDoorJRxW
set_option linter.unusedVariables false
set_option linter.unusedSimpArgs false
set_option maxRecDepth 100000
set_option maxHeartbeats 40000000
namespace Go.Proofs.YtgllmhheahlpjaaGreatDoor
open Go.RowKit Go.Maps Go.WideMaps
section
variable {X : Nat} {v : TrV} {s : List UInt8} {t : T} {M2 : Nat → Prop} {J : (Nat → Prop) → List Lit → World → Prop}
theorem whole_yes (tr : Trial X v s t M2 J) (i j : Nat) (hij : i ≤ j) (hj : j ≤ s.length) (hno : (semT s t).ends i 0 noC j = true) (E : Nat → Prop) (es : List Lit) (w : World) (hJ : J E es w) (hE : ∀ b, E b → b < w.heap.size) :
  Calls Tryz.prog 44 #[.pointer (some ⟨X, 0, none⟩), .int .i64 i, .int .i64 j] w fun e w' => ∃ fs : List Lit, e = .returned (.tuple #[capV (wholeC s t i j), .bool true]) ∧ es <+: fs ∧ J E fs w' ∧ Keeps (fun b => Mt v b ∨ M2 b) w w' := by
 have hsl := tr.sl
 have hJ1 : J (fun b => E b ∨ b = w.heap.size) es (w.alloc (.cells cZ 27)) := tr.mono (tr.keeps (tr.fresh hJ) (((Keeps.refl _ w)).alloc _)) (fun b hb => hb.imp id (fun e => by omega))
 have hE1 : ∀ b, (E b ∨ b = w.heap.size) → b < (w.alloc (.cells cZ 27)).heap.size := fun b hb => by
  rw [World.size_alloc]
  rcases hb with hb | hb
  ·have := hE b hb; omega
  ·omega
 have hrz : VRow (w.alloc (.cells cZ 27)) w.heap.size 10 27 (fun _ => .complex .f64 0 0) := VRow.new w 10 27 (fun _ => .complex .f64 0 0)
 have hk1 : Keeps (fun b => Mt v b ∨ M2 b) w (w.alloc (.cells cZ 27)) := (Keeps.refl _ w).alloc _
 have HTR := Lib.hid tr
 have HN := Lib.hid (fun w => mnone_c w)
 have hall := all_c tr i (by omega) _ es _ hJ1 hE1
 have HALL := Lib.hid hall
 have HK1 := Lib.hid hk1
 have HNO := Lib.hid hno
 have hltm := tr.lt hJ
 have HLT := Lib.hid hltm
 have hlt : ¬ (j : Int) < (i : Int) := by omega
 have HE0 := Lib.hid hE
 have hn := tr.n
 have hpos : 1 ≤ v.n := by have := t.size_pos; omega
 have hn2 := tr.n2
 have hnn : IntKind.i64.wrap ((v.n : Int) - 1) = ((t.size - 1 : Nat) : Int) := by rw [show (v.n : Int) - 1 = ((t.size - 1 : Nat) : Int) by omega]; simp [IntKind.wrap, IntKind.signed, IntKind.bits]; omega
 have HNN := Lib.hid hnn
 have HCN : Hid (CapOk s.length noC) := Lib.hid (fun g a b e => by cases e)
 obtain ⟨Z, hZ⟩ : ∃ Z, Z = (semT s t).leave i j noC := ⟨_, rfl⟩
 have HZ := Lib.hid (And.intro hZ trivial)
 clear tr hJ hE hJ1 hk1 hall hno hltm hE1 hn hnn hZ
 go_enter Tryz.func44, Tryz.ntmps44
 go_wp2_with fail
 refine HALL.out.mono ?_
 rintro e w2 ⟨b, fs, rfl, hrow, hb, hbm, hpre, hJ2, hk2⟩
 have HHAS := Lib.hid (has_m b (s.length / 64 + 1) (s.length / 64 + 1) j _ (by omega) (by omega) w2 hrow)
 have hrz2 : VRow w2 w.heap.size 10 27 (fun _ => .complex .f64 0 0) := ⟨(hk2.block _ hrz.lt (fun e => by have := HLT.out _ e; omega)).trans hrz.heap⟩
 have H2 := Lib.hid (And.intro hpre (And.intro hJ2 (HK1.out.trans hk2)))
 clear hrow hb hbm hpre hJ2 hk2 HALL hrz
 unfold PV
 go_wp2_with fail
 refine HHAS.out.mono ?_
 rintro e w3 ⟨rfl, rfl⟩
 clear HHAS
 rw [HNO.out]
 have lw3 : w.heap.size < w3.heap.size := hrz2.lt
 have HE1 : Hid (∀ b, (E b ∨ b = w.heap.size) → b < w3.heap.size) := Lib.hid (fun b hb => by
  rcases hb with hb | hb
  ·have := HE0.out b hb; omega
  ·omega)
 have H3 := Lib.hid (HTR.out.tr H2.out.2.1).heap
 have HLT3 : Hid (∀ b, (Mt v b ∨ M2 b) → b < w3.heap.size) := Lib.hid (fun b hb => HTR.out.lt H2.out.2.1 b hb)
 go_upto_region 3 with fail
 go_cut [8] from 21 (fun pv wx => ∃ (B8 : Nat) (gs : List Lit), pv = .pointer (some ⟨B8, 0, none⟩) ∧ w.heap.size < B8 ∧ fs <+: gs ∧ J (fun b => (E b ∨ b = w.heap.size) ∨ b = B8) gs wx ∧ Keeps (fun b => Mt v b ∨ M2 b) w3 wx ∧ Blk wx B8 (cH Z) 27)
 case first =>
  go_wp2_with fail
  refine wp_region_noPanic ?_
  refine wp_region_held_drew (S := fun w' => TrAt w' X v s) (by kernel_rfl) ?_ (fun hHeld => ?_)
  ·(try dsimp only); exact ⟨H3.out⟩
  refine tk (i := 0) (v := ?_) rfl ?_ ?_; rotate_left
  ·(intro wq hSw; (try dsimp only at hSw); have x0 := hSw.c0; go_simp); (try with_reducible rfl)
  (try simp only [Act.put, tkS])
  refine tk (i := 1) (v := ?_) rfl ?_ ?_; rotate_left
  ·(intro wq hSw; (try dsimp only at hSw); have x0 := hSw.c0; go_simp); (try with_reducible rfl)
  (try simp only [Act.put, tkS])
  refine tk (i := 2) (v := ?_) rfl ?_ ?_; rotate_left
  ·(intro wq hSw; (try dsimp only at hSw); have x0 := hSw.c0; go_simp); (try with_reducible rfl)
  (try simp only [Act.put, tkS])
  refine tk (i := 3) (v := ?_) rfl ?_ ?_; rotate_left
  ·(intro wq hSw; (try dsimp only at hSw); have x0 := hSw.c0; go_simp); (try with_reducible rfl)
  (try simp only [Act.put, tkS])
  refine tk (i := 4) (v := ?_) rfl ?_ ?_; rotate_left
  ·(intro wq hSw; (try dsimp only at hSw); have x0 := hSw.c0; go_simp); (try with_reducible rfl)
  (try simp only [Act.put, tkS])
  refine tk (i := 5) (v := ?_) rfl ?_ ?_; rotate_left
  ·(intro wq hSw; (try dsimp only at hSw); have x0 := hSw.c0; go_simp); (try with_reducible rfl)
  (try simp only [Act.put, tkS])
  refine tk (i := 6) (v := ?_) rfl ?_ ?_; rotate_left
  ·(intro wq hSw; (try dsimp only at hSw); have x0 := hSw.c0; go_simp); (try with_reducible rfl)
  (try simp only [Act.put, tkS])
  refine tk (i := 7) (v := ?_) rfl ?_ ?_; rotate_left
  ·(intro wq hSw; (try dsimp only at hSw); have x0 := hSw.c0; go_simp); (try with_reducible rfl)
  (try simp only [Act.put, tkS])
  refine tk (i := 8) (v := ?_) rfl ?_ ?_; rotate_left
  ·(intro wq hSw; (try dsimp only at hSw); have x0 := hSw.c0; go_simp); (try with_reducible rfl)
  (try simp only [Act.put, tkS])
  refine wpAnyH_ready (rs := [9, 11]) (by kernel_rfl) (by simp) ?_
  refine AllReadyH.cons rfl (fun K hK => ?_) (AllReadyH.cons rfl (fun K hK => ?_) AllReadyH.nil)
  ·go_simp
   refine (HN.out _).mono ?_
   rintro e wn ⟨rfl, hBn⟩
   have hkn : ∀ S, Keeps S w3 wn := fun S => (Keeps.refl S w3).drew.trans (Keeps.of_below hBn)
   have hJn := HTR.out.keeps H2.out.2.1 (hkn _)
   have ln := (hkn (fun _ => False)).size
   clear hBn
   refine hK.out _ _ ?_ (fun hHeld => ?_)
   ·(try dsimp only); exact HTR.out.tr hJn
   clear hK K
   (try simp only [Act.put, tkS])
   refine wpAnyH_ready (rs := [10, 11]) (by kernel_rfl) (by simp) ?_
   refine AllReadyH.cons rfl (fun K hK => ?_) (AllReadyH.cons rfl (fun K hK => ?_) AllReadyH.nil)
   ·go_simp
    have hcall := HTR.out.leave i j hij hj noC (fun b => E b ∨ b = w.heap.size) fs wn HCN.out hJn (fun b hb => Nat.lt_of_lt_of_le (HE1.out b hb) ln)
    rw [← HZ.out.1, ← HNN.out] at hcall
    refine hcall.mono ?_
    rintro e wl ⟨gs, rfl, hpl, hJl, hkl⟩
    clear hcall
    unfold capV
    have hk8 : Keeps (fun b => Mt v b ∨ M2 b) w3 (wl.alloc (.cells cZ 27)) := ((hkn _).trans hkl).alloc _
    have hr8 : VRow (wl.alloc (.cells cZ 27)) wl.heap.size 10 27 (fun _ => .complex .f64 0 0) := VRow.new wl 10 27 (fun _ => .complex .f64 0 0)
    have hJ8 : J (fun b => (E b ∨ b = w.heap.size) ∨ b = wl.heap.size) gs (wl.alloc (.cells cZ 27)) := HTR.out.mono (HTR.out.keeps (HTR.out.fresh hJl) ((Keeps.refl _ wl).alloc _)) (fun b hb => hb.imp id (fun e => by omega))
    have l9 : w3.heap.size ≤ wl.heap.size := by have := hkl.size; omega
    have l8 : w.heap.size < wl.heap.size := by omega
    refine hK.out _ _ ?_ (fun hHeld => ?_)
    ·(try dsimp only); exact HTR.out.tr hJl
    clear hK K
    (try simp only [Act.put, tkS])
    refine wpAnyH_ready (rs := [11]) (by kernel_rfl) (by simp) ?_
    refine AllReadyH.cons rfl (fun K hK => ?_) ?_
    rotate_left
    ·exact AllReadyH.nil
    go_simp
    refine hK.out _ _ ?_ (fun hHeld => ?_)
    ·(try dsimp only); exact HTR.out.tr hJ8
    clear hK K
    (try simp only [Act.put, tkS])
    generalize hwm : wl.alloc (.cells cZ 27) = wm at hk8 hr8 hJ8 ⊢
    clear hwm
    have hbz := blk_store hr8 Z
    obtain ⟨r0, r1, r2, r3, r4, r5, r6, r7, r8, r9, f0, f1, f2, f3, f4, f5, f6, f7, f8, f9⟩ := hr8.rf10
    obtain ⟨s0, s1, s2, s3, s4, s5, s6, s7, s8, s9⟩ := st10 (w := wm) (b := wl.heap.size) hr8 Z
    have HKS := Lib.hid (kp10 (w := wm) (b := wl.heap.size) Z)
    have HSS := Lib.hid (And.intro s0 (And.intro s1 (And.intro s2 (And.intro s3 (And.intro s4 (And.intro s5 (And.intro s6 (And.intro s7 (And.intro s8 s9)))))))))
    clear hr8 s0 s1 s2 s3 s4 s5 s6 s7 s8 s9
    have HKS2 := HKS.out
    have hJ9 := HTR.out.keeps hJ8 (HKS2.mono (fun i _ e => .inr e))
    have H9 := Lib.hid (And.intro hpl (And.intro hJ9 (And.intro (hk8.trans2 HKS2 (fun i hi e => absurd e (by omega))) hbz)))
    clear hpl hJ9 hk8 hbz HKS2 hJ8
    refine wpAnyH_ready (rs := [12]) (by kernel_rfl) (by simp) ?_
    refine AllReadyH.cons rfl (fun K hK => ?_) ?_
    rotate_left
    ·exact AllReadyH.nil
    go_simp
    refine hK.out _ _ ?_ (fun hHeld => ?_)
    ·(try dsimp only); exact HTR.out.tr H9.out.2.1
    clear hK K
    (try simp only [Act.put, tkS])
    refine wpAnyH_done (by kernel_rfl) ?_ _
    refine NoPanic.normal ?_
    go_step
    go_step
    go_meet
    exact ⟨wl.heap.size, gs, rfl, l8, H9.out.1, H9.out.2.1, H9.out.2.2.1, H9.out.2.2.2⟩
   ·go_simp
    have hJn8 : J (fun b => (E b ∨ b = w.heap.size) ∨ b = wn.heap.size) fs (wn.alloc (.cells cZ 27)) := HTR.out.mono (HTR.out.keeps (HTR.out.fresh hJn) ((Keeps.refl _ wn).alloc _)) (fun b hb => hb.imp id (fun e => by omega))
    refine hK.out _ _ ?_ (fun hHeld => ?_)
    ·(try dsimp only); exact HTR.out.tr hJn8
    clear hK K
    (try simp only [Act.put, tkS])
    refine wpAnyH_ready (rs := [10]) (by kernel_rfl) (by simp) ?_
    refine AllReadyH.cons rfl (fun K hK => ?_) ?_
    rotate_left
    ·exact AllReadyH.nil
    go_simp
    have hcall := HTR.out.leave i j hij hj noC (fun b => (E b ∨ b = w.heap.size) ∨ b = wn.heap.size) fs (wn.alloc (.cells cZ 27)) HCN.out hJn8 (fun b hb => by rw [World.size_alloc]; exact hb.elim (fun q => Nat.lt_succ_of_lt (Nat.lt_of_lt_of_le (HE1.out b q) ln)) (fun q => q ▸ Nat.lt_succ_self _))
    rw [← HZ.out.1, ← HNN.out] at hcall
    refine hcall.mono ?_
    rintro e wl ⟨gs, rfl, hpl, hJl, hkl⟩
    clear hcall
    unfold capV
    have hk8 : Keeps (fun b => Mt v b ∨ M2 b) w3 wl := ((hkn _).alloc _).trans hkl
    have hr8 : VRow wl wn.heap.size 10 27 (fun _ => .complex .f64 0 0) := ⟨(hkl.block _ (by simp) (fun e => by have := HLT3.out _ e; omega)).trans (VRow.new wn 10 27 (fun _ => .complex .f64 0 0)).heap⟩
    have hJ8 := hJl
    have l8 : w.heap.size < wn.heap.size := by omega
    have l9 : w3.heap.size ≤ wn.heap.size := ln
    refine hK.out _ _ ?_ (fun hHeld => ?_)
    ·(try dsimp only); exact HTR.out.tr hJl
    clear hK K
    (try simp only [Act.put, tkS])
    have hbz := blk_store hr8 Z
    obtain ⟨r0, r1, r2, r3, r4, r5, r6, r7, r8, r9, f0, f1, f2, f3, f4, f5, f6, f7, f8, f9⟩ := hr8.rf10
    obtain ⟨s0, s1, s2, s3, s4, s5, s6, s7, s8, s9⟩ := st10 (w := wl) (b := wn.heap.size) hr8 Z
    have HKS := Lib.hid (kp10 (w := wl) (b := wn.heap.size) Z)
    have HSS := Lib.hid (And.intro s0 (And.intro s1 (And.intro s2 (And.intro s3 (And.intro s4 (And.intro s5 (And.intro s6 (And.intro s7 (And.intro s8 s9)))))))))
    clear hr8 s0 s1 s2 s3 s4 s5 s6 s7 s8 s9
    have HKS2 := HKS.out
    have hJ9 := HTR.out.keeps hJ8 (HKS2.mono (fun i _ e => .inr e))
    have H9 := Lib.hid (And.intro hpl (And.intro hJ9 (And.intro (hk8.trans2 HKS2 (fun i hi e => absurd e (by omega))) hbz)))
    clear hpl hJ9 hk8 hbz HKS2 hJ8
    refine wpAnyH_ready (rs := [12]) (by kernel_rfl) (by simp) ?_
    refine AllReadyH.cons rfl (fun K hK => ?_) ?_
    rotate_left
    ·exact AllReadyH.nil
    go_simp
    refine hK.out _ _ ?_ (fun hHeld => ?_)
    ·(try dsimp only); exact HTR.out.tr H9.out.2.1
    clear hK K
    (try simp only [Act.put, tkS])
    refine wpAnyH_done (by kernel_rfl) ?_ _
    refine NoPanic.normal ?_
    go_step
    go_step
    go_meet
    exact ⟨wn.heap.size, gs, rfl, l8, H9.out.1, H9.out.2.1, H9.out.2.2.1, H9.out.2.2.2⟩
  ·go_simp
   refine hK.out _ _ ?_ (fun hHeld => ?_)
   ·(try dsimp only); exact (show TrAt w3 X v s from ⟨H3.out⟩).keeps (((Keeps.refl (fun _ => False) w3).alloc _).drew) id
   clear hK K
   (try simp only [Act.put, tkS])
   refine wpAnyH_ready (rs := [9]) (by kernel_rfl) (by simp) ?_
   refine AllReadyH.cons rfl (fun K hK => ?_) ?_
   rotate_left
   ·exact AllReadyH.nil
   go_simp
   refine (HN.out _).mono ?_
   rintro e wn ⟨rfl, hBn⟩
   have hkn : ∀ S, Keeps S w3 wn := fun S => by first | exact ((Keeps.refl S w3).drew.alloc _).trans (Keeps.of_below hBn) | exact ((Keeps.refl S w3).alloc _).drew.trans (Keeps.of_below hBn)
   have hr8 : VRow wn w3.heap.size 10 27 (fun _ => .complex .f64 0 0) := by first | exact (VRow.new w3.drew 10 27 (fun _ => .complex .f64 0 0)).below hBn (by simp) | exact ((VRow.new w3 10 27 (fun _ => .complex .f64 0 0)).drew).below hBn (by simp)
   have hJn := HTR.out.keeps (HTR.out.fresh H2.out.2.1) (hkn _)
   have ln := (hkn (fun _ => False)).size
   clear hBn
   refine hK.out _ _ ?_ (fun hHeld => ?_)
   ·(try dsimp only); exact HTR.out.tr hJn
   clear hK K
   (try simp only [Act.put, tkS])
   have hJn8 : J (fun b => (E b ∨ b = w.heap.size) ∨ b = w3.heap.size) fs wn := HTR.out.mono hJn (fun b hb => hb.imp id (fun e => by omega))
   refine wpAnyH_ready (rs := [10]) (by kernel_rfl) (by simp) ?_
   refine AllReadyH.cons rfl (fun K hK => ?_) ?_
   rotate_left
   ·exact AllReadyH.nil
   go_simp
   have hcall := HTR.out.leave i j hij hj noC (fun b => (E b ∨ b = w.heap.size) ∨ b = w3.heap.size) fs wn HCN.out hJn8 (fun b hb => hb.elim (fun q => Nat.lt_of_lt_of_le (HE1.out b q) ln) (fun q => q ▸ hr8.lt))
   rw [← HZ.out.1, ← HNN.out] at hcall
   refine hcall.mono ?_
   rintro e wl ⟨gs, rfl, hpl, hJl, hkl⟩
   clear hcall
   unfold capV
   have hk8 : Keeps (fun b => Mt v b ∨ M2 b) w3 wl := (hkn _).trans hkl
   have hr82 : VRow wl w3.heap.size 10 27 (fun _ => .complex .f64 0 0) := ⟨(hkl.block _ hr8.lt (fun e => by have := HLT3.out _ e; omega)).trans hr8.heap⟩
   have hJ8 := hJl
   clear hr8
   have hr8 := hr82
   clear hr82
   have l8 : w.heap.size < w3.heap.size := lw3
   refine hK.out _ _ ?_ (fun hHeld => ?_)
   ·(try dsimp only); exact HTR.out.tr hJl
   clear hK K
   (try simp only [Act.put, tkS])
   have hbz := blk_store hr8 Z
   obtain ⟨r0, r1, r2, r3, r4, r5, r6, r7, r8, r9, f0, f1, f2, f3, f4, f5, f6, f7, f8, f9⟩ := hr8.rf10
   obtain ⟨s0, s1, s2, s3, s4, s5, s6, s7, s8, s9⟩ := st10 (w := wl) (b := w3.heap.size) hr8 Z
   have HKS := Lib.hid (kp10 (w := wl) (b := w3.heap.size) Z)
   have HSS := Lib.hid (And.intro s0 (And.intro s1 (And.intro s2 (And.intro s3 (And.intro s4 (And.intro s5 (And.intro s6 (And.intro s7 (And.intro s8 s9)))))))))
   clear hr8 s0 s1 s2 s3 s4 s5 s6 s7 s8 s9
   have HKS2 := HKS.out
   have hJ9 := HTR.out.keeps hJ8 (HKS2.mono (fun i _ e => .inr e))
   have H9 := Lib.hid (And.intro hpl (And.intro hJ9 (And.intro (hk8.trans2 HKS2 (fun i hi e => absurd e (by omega))) hbz)))
   clear hpl hJ9 hk8 hbz HKS2 hJ8
   refine wpAnyH_ready (rs := [12]) (by kernel_rfl) (by simp) ?_
   refine AllReadyH.cons rfl (fun K hK => ?_) ?_
   rotate_left
   ·exact AllReadyH.nil
   go_simp
   refine hK.out _ _ ?_ (fun hHeld => ?_)
   ·(try dsimp only); exact HTR.out.tr H9.out.2.1
   clear hK K
   (try simp only [Act.put, tkS])
   refine wpAnyH_done (by kernel_rfl) ?_ _
   refine NoPanic.normal ?_
   go_step
   go_step
   go_meet
   exact ⟨w3.heap.size, gs, rfl, l8, H9.out.1, H9.out.2.1, H9.out.2.2.1, H9.out.2.2.2⟩
 case rest =>
  obtain ⟨B8, gs, rfl, l8, hpre8, hJ8, hk8, hb8⟩ := hcut
  obtain ⟨wb, rfl⟩ : ∃ wb, wb = wc := ⟨_, rfl⟩
  have HOF := Lib.hid (fun W => of_yes (i : Int) (j : Int) W (by omega) (by omega) (by omega))
  have hrz8 : VRow wb w.heap.size 10 27 (fun _ => .complex .f64 0 0) := ⟨(hk8.block _ hrz2.lt (fun e => by have := HLT.out _ e; omega)).trans hrz2.heap⟩
  have lb8 := hb8.lt
  have lb0 := hrz8.lt
  have hv8 : VRow wb B8 10 27 (fun i => spV (Z i)) := ⟨hb8.heap⟩
  obtain ⟨Z2, hZ2⟩ : ∃ Z2 : Cp, Z2 = (fun g => if g = 0 then some (i, j) else Z g) := ⟨_, rfl⟩
  have hw : wholeC s t i j = Z2 := by rw [hZ2, HZ.out.1]; rfl
  have hb9 : Blk (wb.setCell ⟨B8, 0, none⟩ (.complex .f64 (floatOfInt .f64 (i : Int)) (floatOfInt .f64 (j : Int)))) B8 (cH Z2) 27 := ⟨by rw [(hv8.set 0 (.complex .f64 (floatOfInt .f64 (i : Int)) (floatOfInt .f64 (j : Int)))).heap, hZ2]; rfl⟩
  have hr9 : VRow (wb.setCell ⟨B8, 0, none⟩ (.complex .f64 (floatOfInt .f64 (i : Int)) (floatOfInt .f64 (j : Int)))) w.heap.size 10 27 (fun _ => .complex .f64 0 0) := hrz8.other (by show w.heap.size ≠ B8; omega) _
  have hJ9 := HTR.out.keeps hJ8 ((Keeps.refl (fun b => (E b ∨ b = w.heap.size) ∨ b = B8) wb).setCell (p := ⟨B8, 0, none⟩) (.inr rfl) (.complex .f64 (floatOfInt .f64 (i : Int)) (floatOfInt .f64 (j : Int))))
  have hk9 : Keeps (fun b => Mt v b ∨ M2 b) w (wb.setCell ⟨B8, 0, none⟩ (.complex .f64 (floatOfInt .f64 (i : Int)) (floatOfInt .f64 (j : Int)))) := (H2.out.2.2.trans hk8).trans2 ((Keeps.refl (fun b => b = B8) wb).setCell (p := ⟨B8, 0, none⟩) rfl (.complex .f64 (floatOfInt .f64 (i : Int)) (floatOfInt .f64 (j : Int)))) (fun i hi e => absurd e (by omega))
  have hpre9 := H2.out.1.trans hpre8
  have q1 := hv8.cell 0 (by decide)
  have q2 := hv8.fz 0
  have HW := Lib.hid hw
  clear hw hZ2 hk8 hJ8 hb8 hrz8 hv8 hpre8
  go_wp2_with fail
  refine (HOF.out _).mono ?_
  rintro e wO ⟨rfl, rfl⟩
  go_upto_region 5 with fail
  generalize hwd : wb.setCell ⟨B8, 0, none⟩ (.complex .f64 (floatOfInt .f64 (i : Int)) (floatOfInt .f64 (j : Int))) = wd at hb9 hr9 hJ9 hk9 ⊢
  clear hwd q1 q2
  have k0 : wd.cell? ⟨B8, 0, none⟩ = some (spV (Z2 0)) := capBlk.at (had := Z2) hb9 0 (by decide)
  have k1 : wd.cell? ⟨B8, 1, none⟩ = some (spV (Z2 1)) := capBlk.at (had := Z2) hb9 1 (by decide)
  have k2 : wd.cell? ⟨B8, 2, none⟩ = some (spV (Z2 2)) := capBlk.at (had := Z2) hb9 2 (by decide)
  have k3 : wd.cell? ⟨B8, 3, none⟩ = some (spV (Z2 3)) := capBlk.at (had := Z2) hb9 3 (by decide)
  have k4 : wd.cell? ⟨B8, 4, none⟩ = some (spV (Z2 4)) := capBlk.at (had := Z2) hb9 4 (by decide)
  have k5 : wd.cell? ⟨B8, 5, none⟩ = some (spV (Z2 5)) := capBlk.at (had := Z2) hb9 5 (by decide)
  have k6 : wd.cell? ⟨B8, 6, none⟩ = some (spV (Z2 6)) := capBlk.at (had := Z2) hb9 6 (by decide)
  have k7 : wd.cell? ⟨B8, 7, none⟩ = some (spV (Z2 7)) := capBlk.at (had := Z2) hb9 7 (by decide)
  have k8 : wd.cell? ⟨B8, 8, none⟩ = some (spV (Z2 8)) := capBlk.at (had := Z2) hb9 8 (by decide)
  have k9 : wd.cell? ⟨B8, 9, none⟩ = some (spV (Z2 9)) := capBlk.at (had := Z2) hb9 9 (by decide)
  clear hb9
  have HFIN := Lib.hid (And.intro hpre9 (And.intro hJ9 hk9))
  clear hpre9 hJ9 hk9
  obtain ⟨r0, r1, r2, r3, r4, r5, r6, r7, r8, r9, f0, f1, f2, f3, f4, f5, f6, f7, f8, f9⟩ := hr9.rf10
  obtain ⟨s0, s1, s2, s3, s4, s5, s6, s7, s8, s9⟩ := st10 (w := wd) (b := w.heap.size) hr9 Z2
  have HKS := Lib.hid (kp10 (w := wd) (b := w.heap.size) Z2)
  have HSS := Lib.hid (And.intro s0 (And.intro s1 (And.intro s2 (And.intro s3 (And.intro s4 (And.intro s5 (And.intro s6 (And.intro s7 (And.intro s8 s9)))))))))
  clear hr9 s0 s1 s2 s3 s4 s5 s6 s7 s8 s9
  go_wp2
  obtain ⟨s0, s1, s2, s3, s4, s5, s6, s7, s8, s9⟩ := HSS.out
  first
  | refine bodyPost_ret (v := .tuple #[.agg (cH Z2), .bool true]) (by simp [results, Tryz.results44, go_sem, s0, s1, s2, s3, s4, s5, s6, s7, s8, s9]) rfl ⟨gs, ?_, HFIN.out.1, HTR.out.mono (HTR.out.keeps HFIN.out.2.1 (HKS.out.mono (fun i _ e => .inl (.inr e)))) (fun b hb => .inl (.inl hb)), HFIN.out.2.2.trans2 HKS.out (fun i hi e => absurd e (by omega))⟩
  | refine bodyPost_ret (v := .tuple #[.agg (cH Z2), .bool true]) (by simp [results, Tryz.results44, go_sem, s0, s1, s2, s3, s4, s5, s6, s7, s8, s9]) rfl ⟨?_, gs, HFIN.out.1, HTR.out.mono (HTR.out.keeps HFIN.out.2.1 (HKS.out.mono (fun i _ e => .inl (.inr e)))) (fun b hb => .inl (.inl hb)), HFIN.out.2.2.trans2 HKS.out (fun i hi e => absurd e (by omega))⟩
  show Ending.returned (.tuple #[capV Z2, .bool true]) = Ending.returned (.tuple #[capV (wholeC s t i j), .bool true])
  rw [HW.out]
end
end Go.Proofs.YtgllmhheahlpjaaGreatDoor
namespace Go.Proofs.YtgllmhheahlpjaaGreatDoor
open Go.RowKit Go.Maps Go.WideMaps
theorem tab_below {w w' : World} {B : Nat} (h : TabAt 0 Lib.deBruijn64tab w) (hB : Below B w w') (h0 : 0 < B) : TabAt 0 Lib.deBruijn64tab w' := fun j hj => by
 have e := hB.block 0 h0
 have := h j hj
 rw [← this]
 simp only [World.cell?, e]
end Go.Proofs.YtgllmhheahlpjaaGreatDoor
namespace Go.Proofs.YtgllmhheahlpjaaGreatDoor
open Go.RowKit Go.Maps Go.WideMaps
def lgR (s : List UInt8) (t : T) (i : Nat) : Option Nat := greatest i (fun j => (semT s t).ends i 0 noC j) s.length
def lgC (s : List UInt8) (t : T) (i : Nat) : Cp := match lgR s t i with | some k => wholeC s t i k | none => noC
theorem Longest_c (lb lo lc : Nat) (s : List UInt8) (xs : List Nd) (t : T) (hp : IsPat xs t) (hfit : ∀ (i : Nat) (x : Nd), xs[i]? = some x → x.Fits) (hsl : s.length ≤ 255) (hsm : 0 < t.refs → s.length ≤ 6 ∧ xs.length ≤ 24) (i : Nat) (hi : i ≤ s.length) (w : World) (hx : NodesAt w lb lo xs) (hT : TabAt 0 Lib.deBruijn64tab w) (h0 : 0 < w.heap.size) :
  Calls Tryz.prog 20 #[.slice (some ⟨lb, lo, none⟩) xs.length lc, .string ⟨s.toArray⟩, .int .i64 i] w fun e w' => e = .returned (.tuple #[capV (lgC s t i), .bool (lgR s t i).isSome]) ∧ Below w.heap.size w w' := by
 have h1 : 1 ≤ xs.length := by have := t.size_pos; have := hp.2.2.1; omega
 have h2 := hp.2.2.2.1
 have lx := hx.lt
 have hsz : (⟨s.toArray⟩ : ByteArray).size = s.length := by simp [ByteArray.size]
 have HM := Lib.hid (fun (W : World) (h : NodesAt W lb lo xs) => may_in lb lo xs.length lc xs rfl h1 h2 hfit true ⟨fun _ => ⟨t, hp⟩, fun _ => rfl⟩ W h)
 have HP1 : Hid (∀ W, Calls Tryz.prog 42 #[.string ⟨s.toArray⟩, .int .i64 i] W fun e w' => e = .returned (.bool true) ∧ w' = W) := Lib.hid (fun W => by
  have := isplace_c s i W
  rw [decide_eq_true (show (0 : Int) ≤ (i : Int) ∧ (i : Int) ≤ s.length by omega)] at this
  exact this)
 have HN := Lib.hid (fun (W : World) (h : NodesAt W lb lo xs) (hT : TabAt 0 Lib.deBruijn64tab W) (h0 : 0 < W.heap.size) => newtrial_c lb lo lc s xs t hp hfit hsl hsm W h hT h0)
 have HX := Lib.hid (And.intro hx (And.intro hT h0))
 have hrz : VRow (w.alloc (.cells cZ 27)) w.heap.size 10 27 (fun _ => .complex .f64 0 0) := VRow.new w 10 27 (fun _ => .complex .f64 0 0)
 have hb0 : Below w.heap.size w (w.alloc (.cells cZ 27)) := (Below.refl _ w).alloc (Nat.le_refl _) _
 have HZ0 := Lib.hid (And.intro hrz hb0)
 clear hx hT hp hfit hsm hrz hb0
 go_enter Tryz.func20, Tryz.ntmps20
 go_wp2_with fail
 refine (HM.out _ (HX.out.1.below HZ0.out.2 lx)).mono ?_
 rintro e w1 ⟨rfl, hB1⟩
 have lz := hB1.size
 have lw1 : w.heap.size < w1.heap.size := by simp at lz; omega
 have hB01 : Below w.heap.size w w1 := HZ0.out.2.trans (hB1.mono (by simp))
 have hrz1 : VRow w1 w.heap.size 10 27 (fun _ => .complex .f64 0 0) := HZ0.out.1.below hB1 (by simp)
 have H1 := Lib.hid (And.intro hB01 hrz1)
 clear hB1 hB01 hrz1 lz
 go_wp2_with fail
 refine (HP1.out _).mono ?_
 rintro e w2 ⟨rfl, rfl⟩
 go_wp2_with fail
 refine (HN.out _ (HX.out.1.below H1.out.1 lx) (tab_below HX.out.2.1 H1.out.1 HX.out.2.2) (by omega)).mono ?_
 rintro e w4 ⟨X, v, M2, J, rfl, tr, hJ, hge, hB4⟩
 have HALL := Lib.hid (all_c tr i hi _ [] w4 hJ (fun b hb => hb.elim))
 have H4 := Lib.hid (And.intro hge hB4)
 have HTR := Lib.hid tr
 have lw4 := hB4.size
 clear hge hB4 tr hJ
 go_wp2_with fail
 refine HALL.out.mono ?_
 rintro e w6 ⟨b, fs, rfl, hrow, _, _, _, hJ6, hk6⟩
 have HUP := Lib.hid (upto_m b (s.length / 64 + 1) (s.length / 64 + 1) s.length _ (by omega) (by omega) w6 hrow)
 have H6 := Lib.hid (And.intro (H4.out.2.trans (hk6.below lw4 H4.out.1)) hJ6)
 have lw6 := hk6.size
 clear hrow hk6 hJ6 HALL
 unfold PV
 go_wp2_with fail
 refine HUP.out.mono ?_
 rintro e w7 ⟨⟨r, rfl, hr⟩, rfl⟩
 clear HUP
 rcases hr with ⟨rfl, hz⟩ | ⟨k, rfl, hk1, hk2, hk3⟩
 ·have hg : lgR s t i = none := great_no (fun j h1 h2 => hz j (by omega))
  have hcall := whole_lt HTR.out i hi (-1) (by omega) _ fs w7 H6.out.2 (fun b hb => hb.elim)
  obtain ⟨Z, hZ⟩ : ∃ Z, Z = noC := ⟨_, rfl⟩
  rw [← hZ] at hcall
  have HZ : Hid (Z = lgC s t i ∧ false = (lgR s t i).isSome) := Lib.hid ⟨by unfold lgC; rw [hg]; exact hZ, by rw [hg]; rfl⟩
  have HCALL := Lib.hid hcall
  clear hcall hZ hz hg
  go_wp2_with fail
  refine HCALL.out.mono ?_
  rintro e w5 ⟨gs, rfl, _, _, hk5⟩
  have hB5 : Below w2.heap.size w2 w5 := H6.out.1.trans (hk5.below (by have := H6.out.1.size; omega) H4.out.1 |>.mono (by omega))
  have hr5 : VRow w5 w.heap.size 10 27 (fun _ => .complex .f64 0 0) := H1.out.2.below hB5 lw1
  have lw5 := hB5.size
  have HB5 := Lib.hid hB5
  clear hk5 hB5 HCALL
  unfold capV
  obtain ⟨r0, r1, r2, r3, r4, r5, r6, r7, r8, r9, f0, f1, f2, f3, f4, f5, f6, f7, f8, f9⟩ := hr5.rf10
  obtain ⟨s0, s1, s2, s3, s4, s5, s6, s7, s8, s9⟩ := st10 (w := w5) (b := w.heap.size) hr5 Z
  have HKS := Lib.hid (kp10 (w := w5) (b := w.heap.size) Z)
  have HSS := Lib.hid (And.intro s0 (And.intro s1 (And.intro s2 (And.intro s3 (And.intro s4 (And.intro s5 (And.intro s6 (And.intro s7 (And.intro s8 s9)))))))))
  clear hr5 s0 s1 s2 s3 s4 s5 s6 s7 s8 s9
  go_wp2
  obtain ⟨s0, s1, s2, s3, s4, s5, s6, s7, s8, s9⟩ := HSS.out
  refine bodyPost_ret (v := .tuple #[.agg (cH Z), .bool false]) (by simp [results, Tryz.results20, go_sem, s0, s1, s2, s3, s4, s5, s6, s7, s8, s9]) rfl ⟨?_, ?_⟩
  ·show Ending.returned (.tuple #[capV Z, .bool false]) = Ending.returned (.tuple #[capV (lgC s t i), .bool (lgR s t i).isSome])
   rw [HZ.out.1, HZ.out.2]
  exact ((H1.out.1.trans (HB5.out.mono (by omega))).trans (HKS.out.below (by omega) (fun i e => by subst e; exact Nat.le_refl _)))
 ·have hle := HTR.out.ok.le i 0 noC k (fun g a b e => by cases e) hi hk2
  have hg : lgR s t i = some k := great_at hle.1 hle.2 hk2 (fun j h1 h2 => hk3 j h1 (by omega))
  have hcall := whole_yes HTR.out i k hle.1 hle.2 hk2 _ fs w7 H6.out.2 (fun b hb => hb.elim)
  obtain ⟨Z, hZ⟩ : ∃ Z, Z = wholeC s t i k := ⟨_, rfl⟩
  rw [← hZ] at hcall
  have HZ : Hid (Z = lgC s t i ∧ true = (lgR s t i).isSome) := Lib.hid ⟨by unfold lgC; rw [hg]; exact hZ, by rw [hg]; rfl⟩
  have HCALL := Lib.hid hcall
  clear hcall hZ hk1 hk2 hk3 hg hle
  go_wp2_with fail
  refine HCALL.out.mono ?_
  rintro e w5 ⟨gs, rfl, _, _, hk5⟩
  have hB5 : Below w2.heap.size w2 w5 := H6.out.1.trans (hk5.below (by have := H6.out.1.size; omega) H4.out.1 |>.mono (by omega))
  have hr5 : VRow w5 w.heap.size 10 27 (fun _ => .complex .f64 0 0) := H1.out.2.below hB5 lw1
  have lw5 := hB5.size
  have HB5 := Lib.hid hB5
  clear hk5 hB5 HCALL
  unfold capV
  obtain ⟨r0, r1, r2, r3, r4, r5, r6, r7, r8, r9, f0, f1, f2, f3, f4, f5, f6, f7, f8, f9⟩ := hr5.rf10
  obtain ⟨s0, s1, s2, s3, s4, s5, s6, s7, s8, s9⟩ := st10 (w := w5) (b := w.heap.size) hr5 Z
  have HKS := Lib.hid (kp10 (w := w5) (b := w.heap.size) Z)
  have HSS := Lib.hid (And.intro s0 (And.intro s1 (And.intro s2 (And.intro s3 (And.intro s4 (And.intro s5 (And.intro s6 (And.intro s7 (And.intro s8 s9)))))))))
  clear hr5 s0 s1 s2 s3 s4 s5 s6 s7 s8 s9
  go_wp2
  obtain ⟨s0, s1, s2, s3, s4, s5, s6, s7, s8, s9⟩ := HSS.out
  refine bodyPost_ret (v := .tuple #[.agg (cH Z), .bool true]) (by simp [results, Tryz.results20, go_sem, s0, s1, s2, s3, s4, s5, s6, s7, s8, s9]) rfl ⟨?_, ?_⟩
  ·show Ending.returned (.tuple #[capV Z, .bool true]) = Ending.returned (.tuple #[capV (lgC s t i), .bool (lgR s t i).isSome])
   rw [HZ.out.1, HZ.out.2]
  exact ((H1.out.1.trans (HB5.out.mono (by omega))).trans (HKS.out.below (by omega) (fun i e => by subst e; exact Nat.le_refl _)))
end Go.Proofs.YtgllmhheahlpjaaGreatDoor
namespace Go.Proofs.YtgllmhheahlpjaaGreatDoor
open Go.RowKit Go.Maps Go.WideMaps
theorem owns_base {w : World} {b b' : Nat} {e : TypeId} {sz n : Nat} {v : Value} {xs : List Value} (h : w.ownsRow b e sz v n xs) (hb : b' ≤ b) : w.ownsRow b' e sz v n xs :=
 ⟨h.1, h.2.imp id (fun ⟨g, cap, cur, e, hg, r⟩ => ⟨g, cap, cur, e, Nat.le_trans hb hg, r⟩)⟩
end Go.Proofs.YtgllmhheahlpjaaGreatDoor
namespace Go.Proofs.YtgllmhheahlpjaaGreatDoor
open Go.RowKit Go.Maps Go.WideMaps
theorem Longest_bad (L : Value) (m : Bool) (s : List UInt8) (i : Int) (hbad : m = true → ¬ (0 ≤ i ∧ i ≤ (s.length : Int))) (w : World) (hM : ∀ W, Below w.heap.size w W → Calls Tryz.prog 40 #[L] W fun e w' => e = .returned (.bool m) ∧ Below W.heap.size W w') :
  Calls Tryz.prog 20 #[L, .string ⟨s.toArray⟩, .int .i64 i] w fun e w' => e = .returned (.tuple #[capV noC, .bool false]) ∧ Below w.heap.size w w' := by
 have HM := Lib.hid hM
 have HN := Lib.hid (fun w => mnone_c w)
 have HP := Lib.hid (fun (q : Int) W => isplace_c s q W)
 have hrz : VRow (w.alloc (.cells cZ 27)) w.heap.size 10 27 (fun _ => .complex .f64 0 0) := VRow.new w 10 27 (fun _ => .complex .f64 0 0)
 have hb0 : Below w.heap.size w (w.alloc (.cells cZ 27)) := (Below.refl _ w).alloc (Nat.le_refl _) _
 have HZ0 := Lib.hid (And.intro hrz hb0)
 have HB := Lib.hid hbad
 clear hM hrz hb0 hbad
 go_enter Tryz.func20, Tryz.ntmps20
 go_wp2_with fail
 refine (HM.out _ HZ0.out.2).mono ?_
 rintro e w1 ⟨rfl, hB1⟩
 have HW : Hid (VRow w1 w.heap.size 10 27 (fun _ => .complex .f64 0 0) ∧ Below w.heap.size w w1) := Lib.hid ⟨HZ0.out.1.below hB1 (by simp), HZ0.out.2.trans (hB1.mono (by simp))⟩
 clear hB1
 cases m with
 | false =>
  go_wp2_with fail
  refine (HN.out _).mono ?_
  rintro e wn ⟨rfl, hBn⟩
  have hrn := HW.out.1.below hBn HW.out.1.lt
  have lwn : w.heap.size < wn.heap.size := hrn.lt
  have lwm := HW.out.2.size
  obtain ⟨Z, hZ⟩ : ∃ Z : Cp, Z = fun _ => none := ⟨_, rfl⟩
  rw [← hZ]
  have HZ := Lib.hid hZ
  have HBN := Lib.hid (HW.out.2.trans (hBn.mono lwm))
  clear hBn hZ
  unfold capV
  obtain ⟨r0, r1, r2, r3, r4, r5, r6, r7, r8, r9, f0, f1, f2, f3, f4, f5, f6, f7, f8, f9⟩ := hrn.rf10
  obtain ⟨s0, s1, s2, s3, s4, s5, s6, s7, s8, s9⟩ := st10 (w := wn) (b := w.heap.size) hrn Z
  have HKS := Lib.hid (kp10 (w := wn) (b := w.heap.size) Z)
  have HSS := Lib.hid (And.intro s0 (And.intro s1 (And.intro s2 (And.intro s3 (And.intro s4 (And.intro s5 (And.intro s6 (And.intro s7 (And.intro s8 s9)))))))))
  clear hrn s0 s1 s2 s3 s4 s5 s6 s7 s8 s9
  go_wp2
  obtain ⟨s0, s1, s2, s3, s4, s5, s6, s7, s8, s9⟩ := HSS.out
  refine bodyPost_ret (v := .tuple #[.agg (cH Z), .bool false]) (by simp [results, Tryz.results20, go_sem, s0, s1, s2, s3, s4, s5, s6, s7, s8, s9]) rfl ⟨?_, HBN.out.trans (HKS.out.below (by omega) (fun i e => by subst e; exact Nat.le_refl _))⟩
  show Ending.returned (.tuple #[capV Z, .bool false]) = Ending.returned (.tuple #[capV noC, .bool false])
  rw [HZ.out]
  rfl
 | true =>
  have hb := HB.out rfl
  go_wp2_with fail
  refine (HP.out i _).mono ?_
  rintro e wp ⟨rfl, hwp⟩
  obtain rfl := hwp
  rw [show decide (0 ≤ i ∧ i ≤ (s.length : Int)) = false by simp; omega]
  clear hb
  go_wp2_with fail
  refine (HN.out _).mono ?_
  rintro e wn ⟨rfl, hBn⟩
  have hrn := HW.out.1.below hBn HW.out.1.lt
  have lwn : w.heap.size < wn.heap.size := hrn.lt
  have lwm := HW.out.2.size
  obtain ⟨Z, hZ⟩ : ∃ Z : Cp, Z = fun _ => none := ⟨_, rfl⟩
  rw [← hZ]
  have HZ := Lib.hid hZ
  have HBN := Lib.hid (HW.out.2.trans (hBn.mono lwm))
  clear hBn hZ
  unfold capV
  obtain ⟨r0, r1, r2, r3, r4, r5, r6, r7, r8, r9, f0, f1, f2, f3, f4, f5, f6, f7, f8, f9⟩ := hrn.rf10
  obtain ⟨s0, s1, s2, s3, s4, s5, s6, s7, s8, s9⟩ := st10 (w := wn) (b := w.heap.size) hrn Z
  have HKS := Lib.hid (kp10 (w := wn) (b := w.heap.size) Z)
  have HSS := Lib.hid (And.intro s0 (And.intro s1 (And.intro s2 (And.intro s3 (And.intro s4 (And.intro s5 (And.intro s6 (And.intro s7 (And.intro s8 s9)))))))))
  clear hrn s0 s1 s2 s3 s4 s5 s6 s7 s8 s9
  go_wp2
  obtain ⟨s0, s1, s2, s3, s4, s5, s6, s7, s8, s9⟩ := HSS.out
  refine bodyPost_ret (v := .tuple #[.agg (cH Z), .bool false]) (by simp [results, Tryz.results20, go_sem, s0, s1, s2, s3, s4, s5, s6, s7, s8, s9]) rfl ⟨?_, HBN.out.trans (HKS.out.below (by omega) (fun i e => by subst e; exact Nat.le_refl _))⟩
  show Ending.returned (.tuple #[capV Z, .bool false]) = Ending.returned (.tuple #[capV noC, .bool false])
  rw [HZ.out]
  rfl
end Go.Proofs.YtgllmhheahlpjaaGreatDoor
namespace Go.Proofs.YtgllmhheahlpjaaGreatDoor
open Go.RowKit Go.Maps Go.WideMaps
def ndA : Nd := ⟨1, 0, 8589934592, 0, 0, 0, 0, 0, 0, 0⟩
end Go.Proofs.YtgllmhheahlpjaaGreatDoor
namespace Go.Proofs.YtgllmhheahlpjaaGreatDoor
open Go.RowKit Go.Lib Go.Maps Go.WideMaps
theorem bytes_sa : (bytesOf ndA.set).data.toList = [97] := by decide +kernel
theorem itoa_s0 : itoa 0 = [48] := by
 unfold itoa
 rw [if_neg (by omega)]
 exact decDigits_one (by decide)
theorem itoa_sm : itoa (-1) = [45, 49] := by
 unfold itoa
 rw [if_pos (by omega)]
 show 45 :: decDigits 1 = _
 rw [decDigits_one (by omega)]
 rfl
theorem hex_sa : hexl [97] = [54, 49] := by decide +kernel
theorem whole_cap {s : List UInt8} {t : T} (h : SOk s.length (semT s t)) {i j : Nat} (hij : i ≤ j) (hj : j ≤ s.length) : CapOk s.length (wholeC s t i j) := fun g a b e => by
 unfold wholeC at e
 split at e
 ·cases e; exact ⟨hij, hj⟩
 ·exact h.leave_cap (had := fun _ => none) (fun g a b e => by cases e) hij hj g a b e
end Go.Proofs.YtgllmhheahlpjaaGreatDoor
namespace Go.Proofs.YtgllmhheahlpjaaGreatDoor
open Go.RowKit Go.Maps Go.WideMaps
def kcnt (xs : List Nd) (K : Int) : Nat → Nat
 | 0 => 0
 | k + 1 => kcnt xs K k + (match xs[k]? with | some x => if x.kind = K then 1 else 0 | none => 0)
theorem kcnt_le (xs : List Nd) (K : Int) : ∀ k, kcnt xs K k ≤ k
 | 0 => Nat.le_refl _
 | k + 1 => by
  have := kcnt_le xs K k
  rw [kcnt]
  split
  ·split <;> omega
  ·omega
def bdR (xs : List Nd) (s : List UInt8) : Bool := decide (xs.length ≤ 24) && decide (s.length ≤ 9) && (decide (kcnt xs 8 xs.length = 0) || (decide (kcnt xs 6 xs.length ≤ 2) && decide (s.length ≤ 6)))
theorem kcnt_yes {xs : List Nd} {K : Int} {k : Nat} {x : Nd} (hx : xs[k]? = some x) (h : x.kind = K) : kcnt xs K (k + 1) = kcnt xs K k + 1 := by rw [kcnt, hx]; simp [h]
theorem kcnt_no {xs : List Nd} {K : Int} {k : Nat} {x : Nd} (hx : xs[k]? = some x) (h : x.kind ≠ K) : kcnt xs K (k + 1) = kcnt xs K k := by rw [kcnt, hx]; simp [h]
end Go.Proofs.YtgllmhheahlpjaaGreatDoor
namespace Go.Proofs.YtgllmhheahlpjaaGreatDoor
open Go.RowKit Go.Lib
theorem kcnt_ref {xs : List Nd} : ∀ k, kcnt xs 8 k = 0 → ¬ anyRef xs k
 | 0, _, ⟨j, x, h, _⟩ => by omega
 | k + 1, h, ⟨j, x, hj, hx, h8⟩ => by
  rw [kcnt] at h
  by_cases e : j = k
  ·subst e
   rw [hx] at h
   simp [h8] at h
  ·exact kcnt_ref k (by omega) ⟨j, x, by omega, hx, h8⟩
theorem bd_ref {xs : List Nd} {s : List UInt8} {t : T} (h : bdR xs s = true) (hp : IsPat xs t) : 0 < t.refs → s.length ≤ 6 ∧ xs.length ≤ 24 := fun hr => by
 have h3 := (tree_nodes t 0 hp.1 hp.2.1).2
 rw [Nat.zero_add, hp.2.2.1] at h3
 have ha := h3.2 (.inr hr)
 unfold bdR at h
 simp only [Bool.and_eq_true, Bool.or_eq_true, decide_eq_true_iff] at h
 rcases h.2 with q | q
 ·exact absurd ha (kcnt_ref _ q)
 ·exact ⟨q.2, h.1.1⟩
section
variable (p : Option Addr) (n cap : Nat) (xs : List Nd) (s : List UInt8) (w : World)
def LongK (i : Int) (C : Cp) (R : Bool) : Prop := ∀ W, Below w.heap.size w W → Calls Tryz.prog 20 #[.slice p n cap, .string ⟨s.toArray⟩, .int .i64 i] W fun e w' => e = .returned (.tuple #[capV C, .bool R]) ∧ Below W.heap.size W w'
variable {p n xs s w}
end
end Go.Proofs.YtgllmhheahlpjaaGreatDoor
