/- Back. -/
import Derived.Test.YthnadcmejaciaaaDoorTrP
namespace Go.Proofs.YthnadcmejaciaaaDoor
open Go.RowKit
set_option linter.unusedVariables false
set_option linter.unusedSimpArgs false

def backV (r : Option (List UInt8)) : Value := match r with
  | none => .tuple #[.string ByteArray.empty, .int .i64 1]
  | some t => .tuple #[.string ⟨t.toArray⟩, .int .i64 0]
theorem trm_lib (s : List UInt8) : Lib.trimSuffix s [36, 10] = trm s := by
  unfold Lib.trimSuffix trm Lib.hasSuffix
  by_cases h : [36, 10] <:+ s
  · rw [if_pos h, if_pos (List.isSuffixOf_iff_suffix.2 h)]; rfl
  · rw [if_neg h, if_neg (fun e => h (List.isSuffixOf_iff_suffix.1 e))]
theorem trm_le (s : List UInt8) : (trm s).length ≤ s.length := by
  unfold trm
  split
  · simp
  · omega

set_option maxRecDepth 100000 in
set_option maxHeartbeats 8000000 in
theorem back_c (S : ByteArray) (hs : S.size ≤ 5000) (w : World) (hm : MaxL w) :
    Calls Tryd.prog 21 #[.string S] w fun e w' => e = .returned (backV (backP S.data.toList)) ∧ Below w.heap.size w w' := by
  obtain ⟨l, hl⟩ : ∃ l, l = S.data.toList := ⟨_, rfl⟩
  have hll : l.length = S.size := by rw [hl]; simp
  obtain ⟨T, hT⟩ : ∃ T : ByteArray, T = ⟨(trm l).toArray⟩ := ⟨_, rfl⟩
  have hTd : T.data.toList = trm l := by rw [hT]
  have hTs : T.size = (trm l).length := by rw [hT, ba_size]
  have htle := trm_le l
  have HTR := Lib.hid (fun w => Tryd.strings_TrimSuffix S ⟨#[36, 10]⟩ w (by omega))
  rw [show Lib.trimSuffix S.data.toList (⟨#[36, 10]⟩ : ByteArray).data.toList = trm l by rw [← hl]; exact trm_lib l, ← hT] at HTR
  have HUN := unlist_c T (by omega) w hm
  rw [hTd] at HUN
  rw [← hl]
  unfold backP
  cases hu : unl (spf (trm l)) [] 2 with
  | none =>
    rw [hu] at HUN
    have HU := Lib.hid HUN
    simp only
    unfold unlV at HU
    clear hu hT hTd hTs HUN hl hll htle
    go_enter Tryd.func21, Tryd.ntmps21
    go_wp2_with fail
    refine (HTR.out _).mono ?_
    rintro e w1 ⟨rfl, rfl⟩
    go_wp2_with fail
    refine HU.out.mono ?_
    rintro e w2 ⟨rfl, hB⟩
    have HB := Lib.hid hB
    clear hB
    go_wp2
    go_ret2
    exact ⟨rfl, HB.out⟩
  | some r =>
    obtain ⟨t, v⟩ := r
    rw [hu] at HUN
    have htl := unl_len _ _ _ t v hu
    have hsum := spf_sum (trm l)
    have hvl := unl_wid (W := 10001) _ _ _ t v hu (by omega) (fun x hx => by
      have := sum_mem _ x hx
      omega)
    simp only [List.length_nil] at htl
    obtain ⟨U, hU⟩ : ∃ U : ByteArray, U = ⟨t.toArray⟩ := ⟨_, rfl⟩
    have hUd : U.data.toList = t := by rw [hU]
    have hUs : U.size = t.length := by rw [hU, ba_size]
    have hUV : unlV (some (t, v)) = .tuple #[.string U, .int .i64 v, .bool true] := by rw [hU]; rfl
    rw [hUV] at HUN
    have HU := Lib.hid HUN
    have HL0 := fun w => list_c U 0 (by omega) (by omega) w
    have HLv := fun w => list_c U v (by omega) (by omega) w
    rw [hUd] at HL0 HLv
    obtain ⟨A, hA⟩ : ∃ A : ByteArray, A = ⟨(lst t 0).toArray⟩ := ⟨_, rfl⟩
    obtain ⟨C, hC⟩ : ∃ C : ByteArray, C = ⟨(lst t v).toArray⟩ := ⟨_, rfl⟩
    rw [← hA] at HL0
    rw [← hC] at HLv
    have hAS : (A = S) ↔ lst t 0 = l := by
      constructor
      · intro e; rw [hl, ← e, hA]
      · intro e; apply ByteArray.ext; apply Array.ext'; rw [hA, ← hl]; exact e
    have hCS : (C = S) ↔ lst t v = l := by
      constructor
      · intro e; rw [hl, ← e, hC]
      · intro e; apply ByteArray.ext; apply Array.ext'; rw [hC, ← hl]; exact e
    have H0 := Lib.hid HL0
    have Hv := Lib.hid HLv
    have HUU := Lib.hid hU
    clear hu hT hTd hTs HUN hl hll htl hsum hU hUd hUs hUV HL0 HLv hA hC htle
    simp only
    have tle : ∀ X : ByteArray, X.toList = S.toList ↔ X = S := fun X => by
      rw [Lib.toList_data, Lib.toList_data]
      exact ⟨fun h => ByteArray.ext (Array.ext' h), fun h => by rw [h]⟩
    by_cases h1 : A = S
    · have q1 : (A.toList == S.toList) = true := by rw [beq_iff_eq]; exact (tle A).2 h1
      have q2 : A.toList = S.toList := (tle A).2 h1
      rw [if_pos (.inl (hAS.1 h1))]
      clear hAS hCS h1 tle
      go_enter Tryd.func21, Tryd.ntmps21
      go_wp2_with fail
      refine (HTR.out _).mono ?_
      rintro e w1 ⟨rfl, rfl⟩
      go_wp2_with fail
      refine HU.out.mono ?_
      rintro e w2 ⟨rfl, hB⟩
      have HB := Lib.hid hB
      clear hB
      go_wp2_with fail
      refine (H0.out _).mono ?_
      rintro e w3 ⟨rfl, hB3⟩
      have HB3 := Lib.hid (HB.out.trans (hB3.mono HB.out.size))
      clear hB3
      go_wp2
      go_ret2
      exact ⟨by rw [HUU.out]; rfl, HB3.out⟩
    · have q1 : (A.toList == S.toList) = false := by rw [beq_eq_false_iff_ne]; exact fun h => h1 ((tle A).1 h)
      have q2 : ¬ A.toList = S.toList := fun h => h1 ((tle A).1 h)
      by_cases hv : v ≤ 300
      · by_cases h2 : C = S
        · have q3 : (C.toList == S.toList) = true := by rw [beq_iff_eq]; exact (tle C).2 h2
          have q4 : C.toList = S.toList := (tle C).2 h2
          rw [if_pos (.inr ⟨hv, hCS.1 h2⟩)]
          clear hAS hCS h1 h2 tle
          go_enter Tryd.func21, Tryd.ntmps21
          go_wp2_with fail
          refine (HTR.out _).mono ?_
          rintro e w1 ⟨rfl, rfl⟩
          go_wp2_with fail
          refine HU.out.mono ?_
          rintro e w2 ⟨rfl, hB⟩
          have HB := Lib.hid hB
          clear hB
          go_wp2_with fail
          refine (H0.out _).mono ?_
          rintro e w3 ⟨rfl, hB3⟩
          have HB3 := Lib.hid (HB.out.trans (hB3.mono HB.out.size))
          clear hB3
          go_wp2_with fail
          refine (Hv.out _).mono ?_
          rintro e w4 ⟨rfl, hB4⟩
          have HB4 := Lib.hid (HB3.out.trans (hB4.mono HB3.out.size))
          clear hB4
          go_wp2
          go_ret2
          exact ⟨by rw [HUU.out]; rfl, HB4.out⟩
        · have q3 : (C.toList == S.toList) = false := by rw [beq_eq_false_iff_ne]; exact fun h => h2 ((tle C).1 h)
          have q4 : ¬ C.toList = S.toList := fun h => h2 ((tle C).1 h)
          rw [if_neg (fun h => h.elim (fun h => h1 (hAS.2 h)) (fun h => h2 (hCS.2 h.2)))]
          clear hAS hCS h1 h2 tle
          go_enter Tryd.func21, Tryd.ntmps21
          go_wp2_with fail
          refine (HTR.out _).mono ?_
          rintro e w1 ⟨rfl, rfl⟩
          go_wp2_with fail
          refine HU.out.mono ?_
          rintro e w2 ⟨rfl, hB⟩
          have HB := Lib.hid hB
          clear hB
          go_wp2_with fail
          refine (H0.out _).mono ?_
          rintro e w3 ⟨rfl, hB3⟩
          have HB3 := Lib.hid (HB.out.trans (hB3.mono HB.out.size))
          clear hB3
          go_wp2_with fail
          refine (Hv.out _).mono ?_
          rintro e w4 ⟨rfl, hB4⟩
          have HB4 := Lib.hid (HB3.out.trans (hB4.mono HB3.out.size))
          clear hB4
          go_wp2
          go_ret2
          exact ⟨rfl, HB4.out⟩
      · rw [if_neg (fun h => h.elim (fun h => h1 (hAS.2 h)) (fun h => hv h.1))]
        clear hAS hCS h1 tle
        go_enter Tryd.func21, Tryd.ntmps21
        go_wp2_with fail
        refine (HTR.out _).mono ?_
        rintro e w1 ⟨rfl, rfl⟩
        go_wp2_with fail
        refine HU.out.mono ?_
        rintro e w2 ⟨rfl, hB⟩
        have HB := Lib.hid hB
        clear hB
        go_wp2_with fail
        refine (H0.out _).mono ?_
        rintro e w3 ⟨rfl, hB3⟩
        have HB3 := Lib.hid (HB.out.trans (hB3.mono HB.out.size))
        clear hB3
        go_wp2
        go_ret2
        exact ⟨rfl, HB3.out⟩

end Go.Proofs.YthnadcmejaciaaaDoor
