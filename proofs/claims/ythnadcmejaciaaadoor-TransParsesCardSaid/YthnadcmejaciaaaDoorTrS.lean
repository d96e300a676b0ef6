/- shown; TransParses, TransLists. -/
import Derived.Test.YthnadcmejaciaaaDoorTrR
import Derived.Test.YthnadcmejaciaaaDoorTrG
namespace Go.Proofs.YthnadcmejaciaaaDoor
open Go.RowKit
set_option linter.unusedVariables false
set_option linter.unusedSimpArgs false

theorem lst_show : lst [97, 9, 200] 0 = [97, 92, 116, 92, 51, 49, 48, 36, 10] := by decide +kernel
theorem back_show : backP [97, 92, 116, 92, 51, 49, 48, 36, 10] = some [97, 9, 200] := backP_iff.2 ⟨0, by omega, lst_show⟩
theorem mkOk_show : mkOk [97, 98] [98, 97] = true := by decide +kernel
theorem app_show : ([97, 98, 99] : List UInt8).map (fun b => mkF [97, 98] [98, 97] 2 b.toNat) = [98, 97, 99] := by decide +kernel

set_option maxRecDepth 100000 in
set_option maxHeartbeats 8000000 in
theorem shown_c (w : World) (hm : MaxL w) :
    Calls Tryd.prog 10 #[] w fun e w' => e = .returned (.bool true) ∧ Below w.heap.size w w' := by
  obtain ⟨hz, hsz⟩ := zero_of_info (P := Tryd.prog) infoM
  have HMK := make_c ⟨#[97, 98]⟩ ⟨#[98, 97]⟩ (fun _ => by decide) w
  have e1 : mkV (⟨#[97, 98]⟩ : ByteArray).data.toList (⟨#[98, 97]⟩ : ByteArray).data.toList = .tuple #[.agg (garr (mv (mkF [97, 98] [98, 97] 2))), .int .i64 0] := by
    unfold mkV
    rw [if_pos mkOk_show]
    rfl
  rw [e1] at HMK
  obtain ⟨F, hF⟩ : ∃ F, F = mkF [97, 98] [98, 97] 2 := ⟨_, rfl⟩
  rw [← hF] at HMK
  have HBK := fun w hm => back_c ⟨#[97, 92, 116, 92, 51, 49, 48, 36, 10]⟩ (by decide) w hm
  rw [show backV (backP (⟨#[97, 92, 116, 92, 51, 49, 48, 36, 10]⟩ : ByteArray).data.toList) = .tuple #[.string ⟨#[97, 9, 200]⟩, .int .i64 0] by
    rw [show backP (⟨#[97, 92, 116, 92, 51, 49, 48, 36, 10]⟩ : ByteArray).data.toList = some [97, 9, 200] from back_show]; rfl] at HBK
  have HAP := fun w => apply_c F ⟨#[97, 98, 99]⟩ (by decide) w
  rw [show ((⟨#[97, 98, 99]⟩ : ByteArray).data.toList.map fun b => F b.toNat) = [98, 97, 99] by rw [hF]; exact app_show] at HAP
  have HLI := fun w => list_c ⟨#[97, 9, 200]⟩ 0 (by decide) (by omega) w
  rw [show lst (⟨#[97, 9, 200]⟩ : ByteArray).data.toList 0 = [97, 92, 116, 92, 51, 49, 48, 36, 10] from lst_show] at HLI
  have H1 := Lib.hid HMK
  have H2 := Lib.hid HBK
  have H3 := Lib.hid HAP
  have H4 := Lib.hid HLI
  have HM := Lib.hid hm
  clear hF HMK HBK HAP HLI e1 hm
  go_enter Tryd.func10, Tryd.ntmps10
  go_wp2_with fail
  refine H1.out.mono ?_
  rintro e w1 ⟨rfl, hB1⟩
  have hst := store_new w1 rtM (mv F) u8z (one_mv F)
  have hG1 := GR.new 23 w1 (mv F)
  have hB1' := hB1.alloc hB1.size (.cells (garr (mv F)) 23)
  have HG1 := Lib.hid (And.intro hG1 hB1')
  clear hB1 hG1 hB1'
  go_wp2_with fail
  clear hst
  refine (H2.out _ (HM.out.below HG1.out.2)).mono ?_
  rintro e w2 ⟨rfl, hB2⟩
  have hG2 := HG1.out.1.beside hB2
  have hld := hG2.loadAt rtM
  have HB2 := Lib.hid (HG1.out.2.trans (hB2.mono HG1.out.2.size))
  clear hB2
  go_wp2_with fail
  refine wp_load_gr hG2 rtM rfl rfl ?_
  go_wp2_with fail
  refine (H3.out _).mono ?_
  rintro e w3 ⟨rfl, hB3⟩
  have HB3 := Lib.hid (HB2.out.trans (hB3.mono HB2.out.size))
  clear hB3
  go_wp2_with fail
  refine (H4.out _).mono ?_
  rintro e w4 ⟨rfl, hB4⟩
  have HB4 := Lib.hid (HB3.out.trans (hB4.mono HB3.out.size))
  clear hB4
  go_wp2
  go_ret
  exact ⟨rfl, HB4.out⟩

end Go.Proofs.YthnadcmejaciaaaDoor
