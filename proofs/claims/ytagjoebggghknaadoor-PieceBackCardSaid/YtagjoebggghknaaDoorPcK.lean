/- PieceTakes, PieceTexts, PieceWords: the walks. -/
import Derived.Test.YtagjoebggghknaaDoorPcJ
namespace Go.Proofs.YtagjoebggghknaaDoor
open Go.RowKit
set_option linter.unusedVariables false
set_option linter.unusedSimpArgs false

theorem tk_form (a : Nat) (o : Option (List UInt8 × Nat)) : ∃ (A : ByteArray) (i e : Int), tkV a o = .tuple #[.string A, .int .i64 i, .int .i64 e] := by
  cases o with
  | none => exact ⟨_, _, _, rfl⟩
  | some x => obtain ⟨t, k⟩ := x; exact ⟨_, _, _, rfl⟩
theorem tx_form (a : Nat) (o : Option (List UInt8 × Nat)) : ∃ (A : ByteArray) (i e : Int), txV a o = .tuple #[.string A, .int .i64 i, .int .i64 e] := by
  cases o with
  | none => exact ⟨_, _, _, rfl⟩
  | some x => obtain ⟨t, k⟩ := x; exact ⟨_, _, _, rfl⟩
theorem gv_form (o : Option (List UInt8)) : ∃ (A : ByteArray) (e : Int), gvV o = .tuple #[.string A, .int .i64 e] := by
  cases o with
  | none => exact ⟨_, _, rfl⟩
  | some x => exact ⟨_, _, rfl⟩
theorem ut_form (o : Option (List UInt8)) : ∃ (A : ByteArray) (e : Int), utV o = .tuple #[.string A, .int .i64 e] := by
  cases o with
  | none => exact ⟨_, _, rfl⟩
  | some x => exact ⟨_, _, rfl⟩
theorem nb_form (A : Nat) (l : List UInt8) : ∃ (a i e : Int), nbV A l = .tuple #[.int .i64 a, .int .i64 i, .int .i64 e] := by
  unfold nbV
  split
  · exact ⟨_, _, _, rfl⟩
  · split <;> exact ⟨_, _, _, rfl⟩

set_option maxRecDepth 100000 in
set_option maxHeartbeats 8000000 in
theorem takesW (S : ByteArray) (a : Int) (n : Nat) (hS : S.size ≤ reachBytes) (hn : n < 256) (w : World) (hm : MaxL w) :
    Calls Tryd.prog 3 #[.string S, .int .i64 a, .int .u8 n] w fun e w' => e = .returned (.bool true) ∧ Below w.heap.size w w' := by
  obtain ⟨d, hd⟩ : ∃ d : UInt8, d.toNat = n := ⟨UInt8.ofNat n, by rw [UInt8.toNat_ofNat']; omega⟩
  rw [← hd]
  clear hd
  have HS := Lib.hid (fun w hm => shown_c w hm)
  have HM := Lib.hid hm
  by_cases hbS : 300 < S.size
  · have hiS : (300 : Int) < (S.size : Int) := by omega
    clear hm
    go_enter Tryd.func3, Tryd.ntmps3
    go_wp2_with fail
    refine (HS.out _ HM.out).mono ?_
    rintro e w1 ⟨rfl, hB1⟩
    go_wp2
    go_ret
    exact ⟨rfl, hB1⟩
  have hiS : ¬ (300 : Int) < (S.size : Int) := by omega
  obtain ⟨A, i, e0, h1⟩ := tk_form (plc S.size a) (tkD d (S.data.toList.drop (plc S.size a)))
  obtain ⟨X, g0, h2⟩ := gv_form (gvD d S.data.toList)
  have c1 := fun w => take_c S a d (by omega) w
  have c2 := fun w => rtake_c S a d (by omega) w
  have c3 := fun w hm => give_c S d (by omega) w hm
  have c4 := fun w => rgive_c S d (by omega) w
  rw [show tkAt S a d = _ from h1] at c1 c2
  rw [h2] at c3 c4
  have C1 := Lib.hid c1
  have C2 := Lib.hid c2
  have C3 := Lib.hid c3
  have C4 := Lib.hid c4
  clear c1 c2 c3 c4 h1 h2 hm
  go_enter Tryd.func3, Tryd.ntmps3
  go_wp2_with fail
  refine (HS.out _ HM.out).mono ?_
  rintro e w1 ⟨rfl, hB1⟩
  have HB1 := Lib.hid hB1
  clear hB1
  go_wp2_with fail
  refine (C1.out _).mono ?_
  rintro e w2 ⟨rfl, hB2⟩
  have HB2 := Lib.hid (HB1.out.trans (hB2.mono HB1.out.size))
  clear hB2
  go_wp2_with fail
  refine (C2.out _).mono ?_
  rintro e w3 ⟨rfl, rfl⟩
  go_wp2_with fail
  refine (C3.out _ (HM.out.below HB2.out)).mono ?_
  rintro e w4 ⟨rfl, hB4⟩
  have HB4 := Lib.hid (HB2.out.trans (hB4.mono HB2.out.size))
  clear hB4
  go_wp2_with fail
  refine (C4.out _).mono ?_
  rintro e w5 ⟨rfl, hB5⟩
  have HB5 := Lib.hid (HB4.out.trans (hB5.mono HB4.out.size))
  clear hB5
  go_wp2
  go_ret
  exact ⟨rfl, HB5.out⟩

set_option maxRecDepth 100000 in
set_option maxHeartbeats 8000000 in
theorem textsW (S : ByteArray) (a : Int) (hS : S.size ≤ reachBytes) (w : World) (hm : MaxL w) :
    Calls Tryd.prog 5 #[.string S, .int .i64 a] w fun e w' => e = .returned (.bool true) ∧ Below w.heap.size w w' := by
  have HS := Lib.hid (fun w hm => shown_c w hm)
  have HM := Lib.hid hm
  by_cases hbS : 300 < S.size
  · have hiS : (300 : Int) < (S.size : Int) := by omega
    clear hm
    go_enter Tryd.func5, Tryd.ntmps5
    go_wp2_with fail
    refine (HS.out _ HM.out).mono ?_
    rintro e w1 ⟨rfl, hB1⟩
    go_wp2
    go_ret
    exact ⟨rfl, hB1⟩
  have hiS : ¬ (300 : Int) < (S.size : Int) := by omega
  obtain ⟨A, i, e0, h1⟩ := tx_form (plc S.size a) (txP (S.data.toList.drop (plc S.size a)))
  obtain ⟨X, g0, h2⟩ := ut_form (utD S.data.toList)
  have c1 := fun w => text_c S a (by omega) w
  have c2 := fun w => rtext_c S a (by omega) w
  have c3 := fun w hm => untext_c S (by omega) w hm
  have c4 := fun w => runtext_c S (by omega) w
  rw [show txAt S a = _ from h1] at c1 c2
  rw [h2] at c3 c4
  have C1 := Lib.hid c1
  have C2 := Lib.hid c2
  have C3 := Lib.hid c3
  have C4 := Lib.hid c4
  clear c1 c2 c3 c4 h1 h2 hm
  go_enter Tryd.func5, Tryd.ntmps5
  go_wp2_with fail
  refine (HS.out _ HM.out).mono ?_
  rintro e w1 ⟨rfl, hB1⟩
  have HB1 := Lib.hid hB1
  clear hB1
  go_wp2_with fail
  refine (C1.out _).mono ?_
  rintro e w2 ⟨rfl, hB2⟩
  have HB2 := Lib.hid (HB1.out.trans (hB2.mono HB1.out.size))
  clear hB2
  go_wp2_with fail
  refine (C2.out _).mono ?_
  rintro e w3 ⟨rfl, rfl⟩
  go_wp2_with fail
  refine (C3.out _ (HM.out.below HB2.out)).mono ?_
  rintro e w4 ⟨rfl, hB4⟩
  have HB4 := Lib.hid (HB2.out.trans (hB4.mono HB2.out.size))
  clear hB4
  go_wp2_with fail
  refine (C4.out _).mono ?_
  rintro e w5 ⟨rfl, rfl⟩
  go_wp2
  go_ret
  exact ⟨rfl, HB4.out⟩

set_option maxRecDepth 100000 in
set_option maxHeartbeats 8000000 in
theorem wordsW (S : ByteArray) (a : Int) (E : ByteArray) (hS : S.size ≤ reachBytes) (hE : E.size ≤ reachBytes) (w : World) (hm : Fit6 w) :
    Calls Tryd.prog 4 #[.string S, .int .i64 a, .string E] w fun e w' => e = .returned (.bool true) ∧ Below w.heap.size w w' := by
  have HF := Lib.hid hm
  have hm0 : MaxL w := hm.max
  have HS := Lib.hid (fun w hm => shown_c w hm)
  have HM := Lib.hid hm0
  clear hm
  have hm := hm0
  clear hm0
  by_cases hbS : 300 < S.size
  · have hiS : (300 : Int) < (S.size : Int) := by omega
    clear hm
    go_enter Tryd.func4, Tryd.ntmps4
    go_wp2_with fail
    refine (HS.out _ HM.out).mono ?_
    rintro e w1 ⟨rfl, hB1⟩
    go_wp2
    go_ret
    exact ⟨rfl, hB1⟩
  have hiS : ¬ (300 : Int) < (S.size : Int) := by omega
  by_cases hbE : 100 < E.size
  · have hiE : (100 : Int) < (E.size : Int) := by omega
    clear hm
    go_enter Tryd.func4, Tryd.ntmps4
    go_wp2_with fail
    refine (HS.out _ HM.out).mono ?_
    rintro e w1 ⟨rfl, hB1⟩
    go_wp2
    go_ret
    exact ⟨rfl, hB1⟩
  have hiE : ¬ (100 : Int) < (E.size : Int) := by omega
  obtain ⟨b, i, e0, h1⟩ := nb_form (plc S.size a) (S.data.toList.drop (plc S.size a))
  obtain ⟨X, hX⟩ : ∃ X : ByteArray, X = ⟨(wdP E.data.toList (S.data.toList.drop (plc S.size a))).toArray⟩ := ⟨_, rfl⟩
  obtain ⟨j, hj⟩ : ∃ j : Nat, j = plc S.size a + wnP E.data.toList (S.data.toList.drop (plc S.size a)) := ⟨_, rfl⟩
  obtain ⟨k, hk⟩ : ∃ k : Nat, k = plc S.size a + blP (S.data.toList.drop (plc S.size a)) := ⟨_, rfl⟩
  have hwd : wdAt S a E = .tuple #[.string X, .int .i64 (j : Int)] := by rw [hX, hj]; rfl
  have c1 := fun w hm => number_c S a (by omega) w hm
  have c2 := fun w => rnumber_c S a (by omega) w
  have c3 := fun w => word_c S E a (by omega) w
  have c4 := fun w => rword_c S E a (by omega) (by omega) w
  have c5 := fun w => blanks_c S a (by omega) w
  have c6 := fun w => rblanks_c S a (by omega) w
  rw [show nbAt S a = _ from h1] at c1 c2
  rw [hwd] at c3 c4
  rw [← hk] at c5 c6
  have C1 := Lib.hid c1
  have C2 := Lib.hid c2
  have C3 := Lib.hid c3
  have C4 := Lib.hid c4
  have C5 := Lib.hid c5
  have C6 := Lib.hid c6
  clear c1 c2 c3 c4 c5 c6 h1 hX hj hk hwd hm
  go_enter Tryd.func4, Tryd.ntmps4
  go_wp2_with fail
  refine (HS.out _ HM.out).mono ?_
  rintro e w1 ⟨rfl, hB1⟩
  have HB1 := Lib.hid hB1
  clear hB1
  go_wp2_with fail
  refine (C1.out _ (HF.out.below HB1.out)).mono ?_
  rintro e w2 ⟨rfl, hB2⟩
  have HB2 := Lib.hid (HB1.out.trans (hB2.mono HB1.out.size))
  clear hB2
  go_wp2_with fail
  refine (C2.out _).mono ?_
  rintro e w3 ⟨rfl, rfl⟩
  go_wp2_with fail
  refine (C3.out _).mono ?_
  rintro e w4 ⟨rfl, hB4⟩
  have HB4 := Lib.hid (HB2.out.trans (hB4.mono HB2.out.size))
  clear hB4
  go_wp2_with fail
  refine (C4.out _).mono ?_
  rintro e w5 ⟨rfl, rfl⟩
  go_wp2_with fail
  refine (C5.out _).mono ?_
  rintro e w6 ⟨rfl, hB6⟩
  have HB6 := Lib.hid (HB4.out.trans (hB6.mono HB4.out.size))
  clear hB6
  go_wp2_with fail
  refine (C6.out _).mono ?_
  rintro e w7 ⟨rfl, rfl⟩
  go_wp2
  go_ret
  exact ⟨rfl, HB6.out⟩

end Go.Proofs.YtagjoebggghknaaDoor
