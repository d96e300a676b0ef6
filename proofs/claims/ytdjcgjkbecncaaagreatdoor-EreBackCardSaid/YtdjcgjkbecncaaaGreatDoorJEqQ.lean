/- EreBack: the walk. -/
import Derived.Test.YtdjcgjkbecncaaaGreatDoorJEqR
set_option linter.unusedVariables false
set_option linter.unusedSimpArgs false
set_option maxRecDepth 100000
set_option maxHeartbeats 40000000
namespace Go.Proofs.YtdjcgjkbecncaaaGreatDoor
open Go.RowKit Go.Lib
theorem eback_wide (s : ByteArray) (hs : 300 < s.size) (w : World) (hw : Fit5 w) :
  Calls Tryz.prog 6 #[.string s] w fun e w' => e = .returned (.bool true) ∧ Below w.heap.size w w' := by
 have HS := Lib.hid (shown5_c w hw)
 have h1 : ((300 : Int) < s.size) = True := by simp; omega
 go_enter Tryz.func6, Tryz.ntmps6
 go_wp2_with fail
 refine HS.out.mono ?_
 rintro e w1 ⟨rfl, hB1⟩
 go_wp2
 go_ret
 exact ⟨rfl, hB1⟩
theorem eback_er (l : List UInt8) (hs : l.length ≤ 300) (z : Int) (a : Nat) (hq : ereP l = .error (z, a)) (w : World) (hw : Fit5 w) :
  Calls Tryz.prog 6 #[.string ⟨l.toArray⟩] w fun e w' => e = .returned (.bool true) ∧ Below w.heap.size w w' := by
 have HS := Lib.hid (shown5_c w hw)
 have HW := Lib.hid hw
 have HP := Lib.hid fun w hw => eparse_er l (by omega) z a hq w hw
 have hsz : (⟨l.toArray⟩ : ByteArray).size = l.length := by simp [ByteArray.size]
 have h1 : ((300 : Int) < l.length) = False := by simp; omega
 have her := (ere_er hq).1
 have z0 : (z == 0) = false := by rw [beq_eq_false_iff_ne]; omega
 have z1 : (z != 0) = true := by rw [bne_iff_ne]; omega
 clear hq hw her
 go_enter Tryz.func6, Tryz.ntmps6
 go_wp2_with fail
 refine HS.out.mono ?_
 rintro e w1 ⟨rfl, hB1⟩
 go_wp2_with fail
 refine (HP.out _ (HW.out.below hB1)).mono ?_
 rintro e w2 ⟨rfl, hB2⟩
 have hb := hB1.trans (hB2.mono hB1.size)
 clear hB1 hB2 HP HS HW
 go_wp2
 go_ret
 exact ⟨rfl, hb⟩
theorem eback_ok (l : List UInt8) (hs : l.length ≤ 300) (q : List Nd) (hq : ereP l = .ok q) (w : World) (hw : Fit5 w) :
  Calls Tryz.prog 6 #[.string ⟨l.toArray⟩] w fun e w' => e = .returned (.bool true) ∧ Below w.heap.size w w' := by
 obtain ⟨t, ht⟩ := ere_ok hq
 have htl := textE_len t ht.ok
 have hts := ht.size
 have HS := Lib.hid (shown5_c w hw)
 have HW := Lib.hid hw
 have hP1 := fun w hw => eparse_row l (by omega) q hq t ht w hw
 have hP2 := fun w hw => eparse_row (textE t) (by omega) q ht.back t ht w hw
 have hPR := fun b o n cap w hw h => eprint_row (b := b) (o := o) (n := n) (cap := cap) ht w hw h
 have hTX := fun b o n cap w hw h => etext_row (b := b) (o := o) (n := n) (cap := cap) ht w hw h
 have hsz : (⟨l.toArray⟩ : ByteArray).size = l.length := by simp [ByteArray.size]
 have h1 : ((300 : Int) < l.length) = False := by simp; omega
 obtain ⟨S, hS⟩ : ∃ S : ByteArray, S = ⟨(textE t).toArray⟩ := ⟨_, rfl⟩
 obtain ⟨U, hU⟩ : ∃ S : ByteArray, S = ⟨(text t).toArray⟩ := ⟨_, rfl⟩
 rw [← hS] at hP2 hPR
 rw [← hU] at hTX
 obtain ⟨xs, hxs⟩ : ∃ xs, xs = q := ⟨_, rfl⟩
 rw [← hxs] at hP1 hP2 hPR hTX
 have P1 := Lib.hid hP1
 have P2 := Lib.hid hP2
 have PR := Lib.hid hPR
 have TX' := Lib.hid hTX
 clear hq hw hP1 hP2 hPR hTX hS hU hts ht htl hxs
 go_enter Tryz.func6, Tryz.ntmps6
 go_wp2_with fail
 refine HS.out.mono ?_
 rintro e w1 ⟨rfl, hB1⟩
 have f1 := HW.out.below hB1
 clear HS HW
 go_wp2_with fail
 refine (P1.out _ f1).mono ?_
 rintro e w2 ⟨⟨b, o, n, cap, rfl, r2⟩, hB2⟩
 have f2 := f1.below hB2
 have b2 := hB1.trans (hB2.mono hB1.size)
 have R2 := Lib.hid r2
 clear P1 f1 hB1 hB2 r2
 go_wp2_with fail
 refine (PR.out _ _ _ _ _ f2 R2.out).mono ?_
 rintro e w3 ⟨rfl, hB3⟩
 have f3 := f2.below hB3
 have R3 := Lib.hid (R2.out.below hB3)
 have b3 := b2.trans (hB3.mono b2.size)
 clear f2 R2 b2 hB3
 go_wp2_with fail
 refine (P2.out _ f3).mono ?_
 rintro e w4 ⟨⟨b', o', n', cap', rfl, r4⟩, hB4⟩
 have f4 := f3.below hB4
 have R4 := Lib.hid (R3.out.below hB4)
 have M4 := Lib.hid r4
 have b4 := b3.trans (hB4.mono b3.size)
 clear P2 f3 R3 b3 hB4 r4
 go_wp2_with fail
 refine (PR.out _ _ _ _ _ f4 M4.out).mono ?_
 rintro e w5 ⟨rfl, hB5⟩
 have f5 := f4.below hB5
 have R5 := Lib.hid (R4.out.below hB5)
 have M5 := Lib.hid (M4.out.below hB5)
 have b5 := b4.trans (hB5.mono b4.size)
 clear PR f4 R4 M4 b4 hB5
 go_wp2_with fail
 refine (TX'.out _ _ _ _ _ f5 M5.out).mono ?_
 rintro e w6 ⟨rfl, hB6⟩
 have f6 := f5.below hB6
 have R6 := Lib.hid (R5.out.below hB6)
 have b6 := b5.trans (hB6.mono b5.size)
 clear f5 R5 M5 b5 hB6
 go_wp2_with fail
 refine (TX'.out _ _ _ _ _ f6 R6.out).mono ?_
 rintro e w7 ⟨rfl, hB7⟩
 have b7 := b6.trans (hB7.mono b6.size)
 clear f6 R6 TX' b6 hB7
 go_wp2
 go_ret
 exact ⟨rfl, b7⟩
theorem ereBackB (s : ByteArray) (w : World) (_ : s.size ≤ Go.reachBytes) (hw : Fit5 w) :
  Calls Tryz.prog 6 #[.string s] w fun e w' => e = .returned (.bool true) ∧ Below w.heap.size w w' := by
 by_cases h : 300 < s.size
 ·exact eback_wide s h w hw
 ·have e : s = ⟨s.data.toList.toArray⟩ := by simp
  have hl : s.data.toList.length ≤ 300 := by simp; omega
  rw [e]
  cases hq : ereP s.data.toList with
  | ok q => exact eback_ok _ hl q hq w hw
  | error er =>
   obtain ⟨z, a⟩ := er
   exact eback_er _ hl z a hq w hw
end Go.Proofs.YtdjcgjkbecncaaaGreatDoor
