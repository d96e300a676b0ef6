/- The walk of MatchEach. -/
import Derived.Test.YtibkllialokdeaaGreatDoorJMdT
import Derived.Deep.QuietTactic
import Derived.BigQuiet
set_option linter.unusedVariables false
set_option linter.unusedSimpArgs false
set_option maxRecDepth 100000
set_option maxHeartbeats 40000000
namespace Go.Proofs.YtibkllialokdeaaGreatDoor
open Go.RowKit Go.Lib Go.Maps Go.WideMaps
theorem each_go (p : Option Addr) (n cap : Nat) (xs : List Nd) (s : List UInt8) (i k : Nat) (w : World) (hN : Nodes w p n xs) (hl : s.length ≤ 9) (hi : i < 256) (hk : i % (s.length + 1) = k)
  (hbd : bdR xs s = true) (L : List Nat) (Z : Nat → Bool) (A : Nat → Nat) (C : Cp) (R : Bool) (hE : EachF s.length k L Z A C R)
  (hEn : EndsK p n cap s w k L) (hWh : WholeK p n cap s w k Z) (hLg : LongK p n cap s w k C R) (hsh : ∀ W, Below w.heap.size w W → Calls Tryz.prog 10 #[] W fun e w' => e = .returned (.bool true) ∧ Below W.heap.size W w') :
  Calls Tryz.prog 6 #[.slice p n cap, .string ⟨s.toArray⟩, .int .u8 (i : Int)] w fun e w' => e = .returned (.bool true) ∧ Below w.heap.size w w' := by
 have HBD : Hid (Calls Tryz.prog 9 #[.slice p n cap, .string ⟨s.toArray⟩] w fun e w' => e = .returned (.bool true) ∧ w' = w) := Lib.hid (by have := bounded_c p n cap xs s w hN; rw [hbd] at this; exact this)
 have HSH := Lib.hid hsh
 have HEN := Lib.hid hEn
 have HWH := Lib.hid hWh
 have HLG := Lib.hid hLg
 have hkk : (i : Int) % ((s.length : Int) + 1) = (k : Int) := by rw [← hk]; simp
 have HK := Lib.hid hkk
 have hks : k ≤ s.length := by rw [← hk]; have := Nat.mod_lt i (show 0 < s.length + 1 by omega); omega
 obtain ⟨N, hNL⟩ : ∃ N, N = L.length := ⟨_, rfl⟩
 have hN10 : N ≤ 10 := by have := hE.len; omega
 have HNL := Lib.hid hNL
 have HE := Lib.hid hE
 clear hN hbd hsh hEn hWh hLg hE hkk hk hNL
 go_enter Tryz.func6, Tryz.ntmps6
 go_wp2_with fail
 refine HBD.out.mono ?_
 rintro e w0 ⟨rfl, hw0⟩
 obtain rfl := hw0
 go_wp2_with fail
 refine (HSH.out _ (Below.refl _ _)).mono ?_
 rintro e w1 ⟨rfl, hB1⟩
 have HB1 := Lib.hid hB1
 clear hB1
 go_wp2_with fail
 rw [HK.out]
 refine (HEN.out _ HB1.out).mono ?_
 rintro e w2 ⟨⟨P, c, rfl, hil⟩, hB2⟩
 have HB2 := Lib.hid (HB1.out.trans (hB2.mono HB1.out.size))
 have HIL := Lib.hid hil
 clear hB2 hil
 rw [← HNL.out]
 go_wp2
 go_loopw [9, 10] (fun av jv wr => ∃ j : Nat, j ≤ s.length + 1 ∧ jv = .int .i64 (j : Int) ∧ av = .int .i64 ((A j : Nat) : Int) ∧ Below w0.heap.size w0 wr ∧ IL wr P L) (fun _ jv _ => s.length + 1 - (RowKit.intOf jv).toNat)
 case atStart => exact ⟨0, by omega, rfl, by rw [HE.out.zero]; rfl, HB2.out, HIL.out⟩
 case round =>
  obtain ⟨j, hj, rfl, rfl, hBr, hir⟩ := hrel
  have HBR := Lib.hid hBr
  have HIR := Lib.hid hir
  have hal := HE.out.le j
  rw [← HNL.out] at hal
  obtain ⟨a, ha⟩ : ∃ a, a = A j := ⟨_, rfl⟩
  rw [← ha] at hal ⊢
  have HA := Lib.hid ha
  clear hBr hir ha
  by_cases hlt : j ≤ s.length
  ·have hli : (j : Int) ≤ (s.length : Int) := by omega
   cases hz : Z j with
   | true =>
    have HW : Hid (∀ W, Below w0.heap.size w0 W → Calls Tryz.prog 11 #[.slice p n cap, .string ⟨s.toArray⟩, .int .i64 k, .int .i64 j] W fun e w' => (∃ c : Cp, e = .returned (.tuple #[capV c, .bool true])) ∧ Below W.heap.size W w') := Lib.hid (fun W h => by have := HWH.out j hlt W h; rw [hz] at this; exact this)
    have hy := HE.out.yes j hlt hz
    rw [← HA.out] at hy
    have hlen := (List.getElem?_eq_some_iff.1 hy.1).1
    rw [← HNL.out] at hlen
    have hleni : (a : Int) < (N : Int) := by omega
    have HY := Lib.hid hy
    clear hz hy
    go_wp2_with fail
    refine (HW.out _ HBR.out).mono ?_
    rintro e w3 ⟨⟨d, rfl⟩, hB3⟩
    have hi3 := HIR.out.below hB3
    have l3 := hB3.size
    have hB4 := HBR.out.trans (hB3.mono HBR.out.size)
    obtain ⟨g, rfl, hc⟩ := (hi3.below ((Below.refl _ w3).alloc (Nat.le_refl _) (.cells (cH d) 27))) a j HY.out.1
    have H3 := Lib.hid (And.intro hi3 hB4)
    have jj : ((j : Int) == (j : Int)) = true := by simp
    clear hB3 hi3 hB4
    unfold capV
    go_wp2
    go_roundw
    case rel => exact ⟨j + 1, by omega, by go_num, by rw [HY.out.2]; go_num, H3.out.2.alloc (by have := H3.out.2.size; omega) _, H3.out.1.below ((Below.refl _ w3).alloc (Nat.le_refl _) _)⟩
    case measure => (simp [RowKit.intOf]) <;> omega
   | false =>
    have HW : Hid (∀ W, Below w0.heap.size w0 W → Calls Tryz.prog 11 #[.slice p n cap, .string ⟨s.toArray⟩, .int .i64 k, .int .i64 j] W fun e w' => (∃ c : Cp, e = .returned (.tuple #[capV c, .bool false])) ∧ Below W.heap.size W w') := Lib.hid (fun W h => by have := HWH.out j hlt W h; rw [hz] at this; exact this)
    have hy := HE.out.no j hlt hz
    rw [← HA.out] at hy
    have HY := Lib.hid hy
    clear hz hy
    by_cases hlen : a < N
    ·have hleni : (a : Int) < (N : Int) := by omega
     obtain ⟨x, hx⟩ : ∃ x, L[a]? = some x := ⟨L[a]'(by rw [← HNL.out]; exact hlen), List.getElem?_eq_getElem _⟩
     have hxj := HY.out.1 x hx
     have HX := Lib.hid hx
     clear hx
     go_wp2_with fail
     refine (HW.out _ HBR.out).mono ?_
     rintro e w3 ⟨⟨d, rfl⟩, hB3⟩
     have hi3 := HIR.out.below hB3
     have l3 := hB3.size
     have hB4 := HBR.out.trans (hB3.mono HBR.out.size)
     obtain ⟨g, rfl, hc⟩ := (hi3.below ((Below.refl _ w3).alloc (Nat.le_refl _) (.cells (cH d) 27))) a x HX.out
     have H3 := Lib.hid (And.intro hi3 hB4)
     have jj : ((x : Int) == (j : Int)) = false := by rw [beq_eq_false_iff_ne]; omega
     have jn : (x == j) = false := by rw [beq_eq_false_iff_ne]; exact hxj
     clear hB3 hi3 hB4
     unfold capV
     go_wp2
     go_roundw
     case rel => exact ⟨j + 1, by omega, by go_num, by rw [HY.out.2], H3.out.2.alloc (by have := H3.out.2.size; omega) _, H3.out.1.below ((Below.refl _ w3).alloc (Nat.le_refl _) _)⟩
     case measure => (simp [RowKit.intOf]) <;> omega
    ·have hleni : ¬ (a : Int) < (N : Int) := by omega
     go_wp2_with fail
     refine (HW.out _ HBR.out).mono ?_
     rintro e w3 ⟨⟨d, rfl⟩, hB3⟩
     have hi3 := HIR.out.below hB3
     have l3 := hB3.size
     have hB4 := HBR.out.trans (hB3.mono HBR.out.size)
     have H3 := Lib.hid (And.intro hi3 hB4)
     clear hB3 hi3 hB4
     unfold capV
     go_wp2
     go_roundw
     case rel => exact ⟨j + 1, by omega, by go_num, by rw [HY.out.2], H3.out.2.alloc (by have := H3.out.2.size; omega) _, H3.out.1.below ((Below.refl _ w3).alloc (Nat.le_refl _) _)⟩
     case measure => (simp [RowKit.intOf]) <;> omega
  ·obtain rfl : j = s.length + 1 := by omega
   have ha := HA.out
   rw [HE.out.all, ← HNL.out] at ha
   obtain rfl := ha
   clear hal HA
   go_wp2_with fail
   refine (HLG.out _ HBR.out).mono ?_
   rintro e w3 ⟨rfl, hB3⟩
   have hi3 := HIR.out.below hB3
   have hB4 := HBR.out.trans (hB3.mono HBR.out.size)
   have hb3 := capBlk w3 C
   have hi4 := hi3.below ((Below.refl _ w3).alloc (Nat.le_refl _) (.cells (cH C) 27))
   have hB5 := hB4.alloc hB4.size (.cells (cH C) 27)
   have HB5 := Lib.hid hB5
   have hR := HE.out.some
   rw [← HNL.out] at hR
   clear hB3 hi3 hB4 hB5
   by_cases h0 : 0 < a
   ·obtain ⟨m, hm1, hm2, hm3, hm4⟩ := HE.out.last (by rw [← HNL.out]; exact h0)
    rw [← HNL.out] at hm1
    obtain ⟨g, rfl, hc⟩ := hi4 (a - 1) m hm1
    have hR' : R = true := by rw [hR]; simp [h0]
    subst hR'
    have HTO : Hid (∀ w, Calls Tryz.prog 25 #[spV (C 0)] w fun e w' => e = .returned (.int .i64 (m : Int)) ∧ w' = w) := Lib.hid (fun w => by
     have := to_sp (C 0) (fun x y e => by rw [hm2] at e; cases e; omega) w
     rw [show toO (C 0) = (m : Int) by rw [hm2]; rfl] at this; exact this)
    have k0 := capBlk.at hb3 0 (by decide)
    have q1 : IntKind.i64.wrap ((a : Int) - 1) = ((a - 1 : Nat) : Int) := by rw [show (a : Int) - 1 = ((a - 1 : Nat) : Int) by omega]; simp [IntKind.wrap, IntKind.signed, IntKind.bits]; omega
    have q2 : (0 : Int) < (a : Int) := by omega
    have q3 : ((a : Int) == 0) = false := by rw [beq_eq_false_iff_ne]; omega
    have q4 : ((a - 1 : Nat) : Int) < (a : Int) := by omega
    have q5 : a - 1 < a := by omega
    have q6 : ((m : Int) == (m : Int)) = true := by simp
    have q7 : ((a : Int) == (a : Int)) = true := by simp
    clear hm1 hm2 hR hb3 hi4
    unfold capV
    go_wp2_with fail
    go_quiet ((go_at_call 25; exact Calls.quiet_of_same (HTO.out _)))
    go_wp2
    go_ret
    exact ⟨rfl, Go.below_drewN HB5.out _⟩
   ·obtain rfl : a = 0 := by omega
    have hR' : R = false := by rw [hR]; simp
    subst hR'
    clear hR hb3 hi4
    unfold capV
    go_wp2_with fail
    go_quiet (fail)
    go_wp2
    go_ret
    exact ⟨rfl, Go.below_drewN HB5.out _⟩
theorem matchEachB (p : Option Addr) (n cap : Nat) (xs : List Nd) (t : ByteArray) (i : Nat) (w : World) (hN : Nodes w p n xs) (hs : t.size ≤ reachBytes) (hi : i < 256) (hf : Fit4 w) :
  Calls Tryz.prog 6 #[.slice p n cap, .string t, .int .u8 (i : Int)] w fun e w' => e = .returned (.bool true) ∧ Below w.heap.size w w' := by
 obtain ⟨s, rfl⟩ : ∃ s : List UInt8, t = ⟨s.toArray⟩ := ⟨t.data.toList, by simp⟩
 have hsh : ∀ W, Below w.heap.size w W → Calls Tryz.prog 10 #[] W fun e w' => e = .returned (.bool true) ∧ Below W.heap.size W w' := fun W hB => shown6_c W (hf.below hB) (hf.below hB).f.fit.tab (hf.below hB).f.fit.pos
 cases hbd : bdR xs s with
 | true =>
  have hl := (bd_len hbd).2
  obtain ⟨L, Z, A, C, R, h1, h2, h3, h4⟩ := each_calls (cap := cap) (s := s) (i % (s.length + 1)) hN hbd (by have := Nat.mod_lt i (show 0 < s.length + 1 by omega); omega) hf.f.fit.tab hf.f.fit.pos
  exact each_go p n cap xs s i _ w hN hl hi rfl hbd L Z A C R h1 h2 h3 h4 hsh
 | false =>
  have HBD : Hid (Calls Tryz.prog 9 #[.slice p n cap, .string ⟨s.toArray⟩] w fun e w' => e = .returned (.bool false) ∧ w' = w) := Lib.hid (by have := bounded_c p n cap xs s w hN; rw [hbd] at this; exact this)
  have HSH := Lib.hid hsh
  clear hN hbd hsh hf hs
  go_enter Tryz.func6, Tryz.ntmps6
  go_wp2_with fail
  refine HBD.out.mono ?_
  rintro e w0 ⟨rfl, hw0⟩
  obtain rfl := hw0
  go_wp2_with fail
  refine (HSH.out _ (Below.refl _ _)).mono ?_
  rintro e w1 ⟨rfl, hB1⟩
  have HB1 := Lib.hid hB1
  clear hB1
  go_wp2
  go_ret
  exact ⟨rfl, HB1.out⟩
end Go.Proofs.YtibkllialokdeaaGreatDoor
