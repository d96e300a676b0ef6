/- TransParses, TransLists: the walks. -/
import Derived.Test.YthnadcmejaciaaaDoorTrS
namespace Go.Proofs.YthnadcmejaciaaaDoor
open Go.RowKit
set_option linter.unusedVariables false
set_option linter.unusedSimpArgs false

theorem ba_of (S : ByteArray) (l : List UInt8) (h : S.data.toList = l) : (⟨l.toArray⟩ : ByteArray) = S := by
  apply ByteArray.ext; apply Array.ext'; rw [h]

set_option maxRecDepth 100000 in
set_option maxHeartbeats 8000000 in
theorem parsesW (S : ByteArray) (hs : S.size ≤ reachBytes) (w : World) (hm : MaxL w) :
    Calls Tryd.prog 4 #[.string S] w fun e w' => e = .returned (.bool true) ∧ Below w.heap.size w w' := by
  have HS := Lib.hid (fun w hm => shown_c w hm)
  have HM := Lib.hid hm
  have hrb : reachBytes = 140737488351232 := by decide
  rw [hrb] at hs
  clear hm hrb
  by_cases hbig : 300 < S.size
  · have t1 : (300 : Int) < (S.size : Int) := by omega
    clear hbig
    go_enter Tryd.func4, Tryd.ntmps4
    go_wp2_with fail
    refine (HS.out _ HM.out).mono ?_
    rintro e w1 ⟨rfl, hB1⟩
    have HB := Lib.hid hB1
    clear hB1
    go_wp2
    go_ret
    exact ⟨rfl, HB.out⟩
  · have t1 : ¬ (300 : Int) < (S.size : Int) := by omega
    obtain ⟨l, hl⟩ : ∃ l, l = S.data.toList := ⟨_, rfl⟩
    have hll : l.length = S.size := by rw [hl]; simp
    have HP := fun w => parse_c S (by omega) w
    have HR := fun w => rparse_c S (by omega) w
    have HPR := fun w hm => print_c S (by omega) w hm
    have HRP := fun w => rprint_c S (by omega) w
    rw [← hl] at HP HR HPR HRP
    obtain ⟨T, hT⟩ : ∃ T : ByteArray, T = ⟨(prt l).toArray⟩ := ⟨_, rfl⟩
    have hTd : T.data.toList = prt l := by rw [hT]
    have hTs : T.size ≤ 600 := by
      rw [hT, ba_size]
      have := (prt_len l).2
      omega
    have HPT := fun w => parse_c T (by omega) w
    rw [hTd, parse_print, show prV (l, 0, 0) = .tuple #[.string S, .int .i64 0, .int .i64 0] by rw [← ba_of S l hl.symm]; rfl] at HPT
    rw [← hT] at HPR HRP
    obtain ⟨A, i, k, hV⟩ : ∃ (A : ByteArray) (i k : Nat), prV (parse l) = .tuple #[.string A, .int .i64 i, .int .i64 k] := ⟨_, _, _, rfl⟩
    rw [hV] at HP HR
    have H1 := Lib.hid HP
    have H2 := Lib.hid HR
    have H3 := Lib.hid HPR
    have H4 := Lib.hid HRP
    have H5 := Lib.hid HPT
    clear hbig hl hll hT hTd hTs hV HP HR HPR HRP HPT
    go_enter Tryd.func4, Tryd.ntmps4
    go_wp2_with fail
    refine (HS.out _ HM.out).mono ?_
    rintro e w1 ⟨rfl, hB1⟩
    have HB1 := Lib.hid hB1
    clear hB1
    go_wp2_with fail
    refine (H1.out _).mono ?_
    rintro e w2 ⟨rfl, hB2⟩
    have HB2 := Lib.hid (HB1.out.trans (hB2.mono HB1.out.size))
    clear hB2
    go_wp2_with fail
    refine (H2.out _).mono ?_
    rintro e w3 ⟨rfl, rfl⟩
    go_wp2_with fail
    refine (H3.out _ (HM.out.below HB2.out)).mono ?_
    rintro e w4 ⟨rfl, hB4⟩
    have HB4 := Lib.hid (HB2.out.trans (hB4.mono HB2.out.size))
    clear hB4
    go_wp2_with fail
    refine (H5.out _).mono ?_
    rintro e w5 ⟨rfl, hB5⟩
    have HB5 := Lib.hid (HB4.out.trans (hB5.mono HB4.out.size))
    clear hB5
    go_wp2_with fail
    refine (H4.out _).mono ?_
    rintro e w6 ⟨rfl, rfl⟩
    go_wp2
    go_ret
    exact ⟨rfl, HB5.out⟩

set_option maxRecDepth 100000 in
set_option maxHeartbeats 8000000 in
theorem listsW (S T : ByteArray) (width : Int) (hs : S.size ≤ reachBytes) (ht : T.size ≤ reachBytes) (hw2 : width ≤ 9223372036854775807) (w : World) (hm : MaxL w) :
    Calls Tryd.prog 5 #[.string S, .string T, .int .i64 width] w fun e w' => e = .returned (.bool true) ∧ Below w.heap.size w w' := by
  have HS := Lib.hid (fun w hm => shown_c w hm)
  have HM := Lib.hid hm
  have hrb : reachBytes = 140737488351232 := by decide
  rw [hrb] at hs ht
  clear hm hrb
  by_cases hbig : 200 < S.size
  · have t1 : (200 : Int) < (S.size : Int) := by omega
    clear hbig
    go_enter Tryd.func5, Tryd.ntmps5
    go_wp2_with fail
    refine (HS.out _ HM.out).mono ?_
    rintro e w1 ⟨rfl, hB1⟩
    have HB := Lib.hid hB1
    clear hB1
    go_wp2
    go_ret
    exact ⟨rfl, HB.out⟩
  · have t1 : ¬ (200 : Int) < (S.size : Int) := by omega
    by_cases hbig2 : 150 < T.size
    · have t2 : (150 : Int) < (T.size : Int) := by omega
      clear hbig hbig2
      go_enter Tryd.func5, Tryd.ntmps5
      go_wp2_with fail
      refine (HS.out _ HM.out).mono ?_
      rintro e w1 ⟨rfl, hB1⟩
      have HB := Lib.hid hB1
      clear hB1
      go_wp2
      go_ret
      exact ⟨rfl, HB.out⟩
    · have t2 : ¬ (150 : Int) < (T.size : Int) := by omega
      have HBK := fun w hm => back_c T (by omega) w hm
      have HRB := fun w => rback_c T (by omega) w
      have HLI := fun w => list_c S width (by omega) hw2 w
      have HRL := fun w => rlist_c S width (by omega) hw2 w
      rw [back_same] at HBK
      obtain ⟨A, k, hV⟩ : ∃ (A : ByteArray) (k : Int), backV (backR T.data.toList) = .tuple #[.string A, .int .i64 k] := by
        cases backR T.data.toList with
        | none => exact ⟨_, _, rfl⟩
        | some t => exact ⟨_, _, rfl⟩
      rw [hV] at HBK HRB
      obtain ⟨L, hL⟩ : ∃ L : ByteArray, L = ⟨(lst S.data.toList width).toArray⟩ := ⟨_, rfl⟩
      rw [← hL] at HLI HRL
      have H1 := Lib.hid HBK
      have H2 := Lib.hid HRB
      have H3 := Lib.hid HLI
      have H4 := Lib.hid HRL
      clear hbig hbig2 hV hL HBK HRB HLI HRL hs ht
      go_enter Tryd.func5, Tryd.ntmps5
      go_wp2_with fail
      refine (HS.out _ HM.out).mono ?_
      rintro e w1 ⟨rfl, hB1⟩
      have HB1 := Lib.hid hB1
      clear hB1
      go_wp2_with fail
      refine (H1.out _ (HM.out.below HB1.out)).mono ?_
      rintro e w2 ⟨rfl, hB2⟩
      have HB2 := Lib.hid (HB1.out.trans (hB2.mono HB1.out.size))
      clear hB2
      go_wp2_with fail
      refine (H2.out _).mono ?_
      rintro e w3 ⟨rfl, hB3⟩
      have HB3 := Lib.hid (HB2.out.trans (hB3.mono HB2.out.size))
      clear hB3
      go_wp2_with fail
      refine (H3.out _).mono ?_
      rintro e w4 ⟨rfl, hB4⟩
      have HB4 := Lib.hid (HB3.out.trans (hB4.mono HB3.out.size))
      clear hB4
      go_wp2_with fail
      refine (H4.out _).mono ?_
      rintro e w5 ⟨rfl, hB5⟩
      have HB5 := Lib.hid (HB4.out.trans (hB5.mono HB4.out.size))
      clear hB5
      go_wp2
      go_ret
      exact ⟨rfl, HB5.out⟩

end Go.Proofs.YthnadcmejaciaaaDoor
