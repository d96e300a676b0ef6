/- SetWords: the walk. -/
import Derived.Test.YtdcekdjpbkchmaaDoorSetS
import Derived.Test.YtdcekdjpbkchmaaDoorSetU
namespace Go.Proofs.YtdcekdjpbkchmaaDoor
open Go.RowKit
set_option linter.unusedVariables false
set_option linter.unusedSimpArgs false

set_option maxHeartbeats 4000000 in
/-- **SetWords: true, whatever the text.** -/
theorem setWordsW (x : ByteArray) (hx : x.size ≤ maxLen) (w : World) (hw : Fit w) :
    Calls Tryd.prog 7 #[.string x] w fun e w' => e = .returned (.bool true) ∧ Below w.heap.size w w' := by
  have HX := Lib.hid (fun w hw => shown_c w hw)
  by_cases hl : 300 < x.size
  · go_enter Tryd.func7, Tryd.ntmps7
    go_wp2_with (go_at_call 10; refine (HX.out _ hw).mono ?_; rintro e w1 ⟨rfl, hB1⟩)
    go_ret
    exact ⟨rfl, hB1⟩
  · have hs : x.size < 9223372036854775807 := by omega
    have HO := Lib.hid (fun w => of_c x hs w)
    have HR := Lib.hid (fun w => rof_c x hs w)
    have HV := Lib.hid (fun w => words_c (inS x x.size) w)
    go_enter Tryd.func7, Tryd.ntmps7
    go_wp2_with fail
    refine (HX.out _ hw).mono ?_
    rintro e w1 ⟨rfl, hB1⟩
    go_wp2_with fail
    refine (HO.out _).mono ?_
    rintro e w2 ⟨rfl, hB2⟩
    go_wp2_with fail
    refine (HR.out _).mono ?_
    rintro e w3 ⟨rfl, hB3⟩
    go_wp2_with fail
    refine (HV.out _).mono ?_
    rintro e w4 ⟨rfl, hB4⟩
    have b2 := hB1.trans (hB2.mono hB1.size)
    have b3 := b2.trans (hB3.mono b2.size)
    have b4 := b3.trans (hB4.mono b3.size)
    have hq := fun w => eq_four (t := 23) Tryd.underlying23 (wd (inS x x.size) 0) (wd (inS x x.size) 1) (wd (inS x x.size) 2) (wd (inS x x.size) 3) w
    simp only [sv]
    go_wp2
    go_ret
    exact ⟨rfl, b4⟩

end Go.Proofs.YtdcekdjpbkchmaaDoor
