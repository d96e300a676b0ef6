/- read, Parse. -/
import Derived.Test.YtaamhjjdhebjfaaGreatDoorAdM
namespace Go.Proofs.YtaamhjjdhebjfaaGreatDoor
open Go.RowKit Go.Lib
set_option linter.unusedVariables false
set_option linter.unusedSimpArgs false

theorem suf_len (l : List UInt8) (c : UInt8) : (trimSuffix l [c]).length ≤ l.length := by
  unfold trimSuffix
  split
  · rw [List.length_take]; omega
  · exact Nat.le_refl _
set_option maxRecDepth 100000 in
set_option maxHeartbeats 8000000 in
theorem read_c (S : ByteArray) (hs : S.size ≤ 1000) (w : World) (hf : Fit6 w) : Calls Tryz.prog 19 #[.string S] w fun e w' => e = .returned (rgv (rdR S.data.toList)) ∧ Below w.heap.size w w' := by
  have hsl := suf_len S.data.toList 33
  rw [size_dl] at hsl
  have H1 := Lib.hid (fun w => Tryz.strings_CutSuffix S ⟨#[33]⟩ w (by omega))
  have e0 : rdR S.data.toList = ⟨rdA (cut (trimSuffix S.data.toList [33]) [44]).1, rdA (cut (trimSuffix S.data.toList [33]) [44]).2.1, hasSuffix S.data.toList [33]⟩ := rfl
  rw [e0]
  rw [show (⟨#[33]⟩ : ByteArray).data.toList = [33] from rfl] at H1
  generalize trimSuffix S.data.toList [33] = T at H1 hsl ⊢
  generalize hasSuffix S.data.toList [33] = nt at H1 ⊢
  have H2 := Lib.hid (fun w h => cut_c ⟨T.toArray⟩ 44 (by rw [ba_size]; omega) w h)
  have hcl := cut_len T 44
  rw [show (⟨T.toArray⟩ : ByteArray).data.toList = T from rfl] at H2
  generalize cut T [44] = CU at H2 hcl ⊢
  obtain ⟨ca, cb, cf⟩ := CU
  simp only at H2 hcl ⊢
  have R1 := fun w h => readaddr_c ⟨ca.toArray⟩ (by rw [ba_size]; omega) w h
  have R2 := fun w h => readaddr_c ⟨cb.toArray⟩ (by rw [ba_size]; omega) w h
  simp only at R1 R2
  generalize rdA ca = A at R1 ⊢
  generalize rdA cb = B at R2 ⊢
  obtain ⟨ak, an, am⟩ := A
  obtain ⟨bk, bn, bm⟩ := B
  unfold adv at R1 R2
  unfold rgv
  simp only at R1 R2 ⊢
  have HR1 := Lib.hid R1
  have HR2 := Lib.hid R2
  have hB0 := (Below.refl _ w).alloc (Nat.le_refl _) (.cells #[.int .i64 0, .int .i64 0, .int .i64 0, .int .i64 0, .int .i64 0, .int .i64 0, .bool false] 25)
  have HB := Lib.hid hB0
  have HT := Lib.hid (Seven.new w 25 (.int .i64 0) (.int .i64 0) (.int .i64 0) (.int .i64 0) (.int .i64 0) (.int .i64 0) (.bool false))
  have HF := Lib.hid (hf.below hB0)
  clear R1 R2 hB0 hf hsl hcl e0
  go_enter Tryz.func19, Tryz.ntmps19
  go_wp2_with fail
  refine (H1.out _).mono ?_
  rintro e w1 ⟨rfl, rfl⟩
  go_wp2_with fail
  refine (H2.out _ HF.out).mono ?_
  rintro e w2 ⟨rfl, hB⟩
  have HB1 := Lib.hid (HB.out.trans (hB.mono HB.out.size))
  have HF1 := Lib.hid (HF.out.below hB)
  have HT1 := Lib.hid (HT.out.beside hB)
  clear hB
  go_wp2_with fail
  refine (HR1.out _ HF1.out).mono ?_
  rintro e w3 ⟨rfl, hB⟩
  have HB2 := Lib.hid (HB1.out.trans (hB.mono HB1.out.size))
  have HF2 := Lib.hid (HF1.out.below hB)
  have HT2 := Lib.hid (HT1.out.beside hB)
  clear hB
  go_wp2_with fail
  refine (HR2.out _ HF2.out).mono ?_
  rintro e w4 ⟨rfl, hB⟩
  have HB3 := Lib.hid (HB2.out.trans (hB.mono HB2.out.size))
  have HF3 := Lib.hid (HF2.out.below hB)
  have HT3 := Lib.hid (HT2.out.beside hB)
  clear hB
  have HS := Lib.hid (HT3.out.s (.int .i64 ak) (.int .i64 an) (.int .i64 am) (.int .i64 bk) (.int .i64 bn) (.int .i64 bm) (.bool nt))
  have HBS := Lib.hid (Below.set7 HB3.out (b := w.heap.size) (Nat.le_refl _) (.int .i64 ak) (.int .i64 an) (.int .i64 am) (.int .i64 bk) (.int .i64 bn) (.int .i64 bm) (.bool nt))
  have c0 := HT3.out.c0
  have f0 := HT3.out.fz 0
  have c1 := HT3.out.c1
  have f1 := HT3.out.fz 1
  have c2 := HT3.out.c2
  have f2 := HT3.out.fz 2
  have c3 := HT3.out.c3
  have f3 := HT3.out.fz 3
  have c4 := HT3.out.c4
  have f4 := HT3.out.fz 4
  have c5 := HT3.out.c5
  have f5 := HT3.out.fz 5
  have c6 := HT3.out.c6
  have f6 := HT3.out.fz 6
  go_wp2
  refine bodyPost_ret (v := .agg #[.int .i64 ak, .int .i64 an, .int .i64 am, .int .i64 bk, .int .i64 bn, .int .i64 bm, .bool nt]) (by simp [results, Tryz.results19, go_sem, HS.out.c0, HS.out.c1, HS.out.c2, HS.out.c3, HS.out.c4, HS.out.c5, HS.out.c6]) rfl ⟨rfl, HBS.out⟩

def parV (x : Rg × Int) : Value := .tuple #[rgv x.1, .int .i64 x.2]
set_option maxRecDepth 100000 in
set_option maxHeartbeats 8000000 in
theorem parse_c (S : ByteArray) (hs : S.size ≤ 1000) (w : World) (hf : Fit6 w) : Calls Tryz.prog 9 #[.string S] w fun e w' => e = .returned (parV (parR S.data.toList)) ∧ Below w.heap.size w w' := by
  have R1 := fun w h => read_c S hs w h
  have e0 : parR S.data.toList = if mayR (rdR S.data.toList) = true ∧ textR (rdR S.data.toList) = S.data.toList then (rdR S.data.toList, 0) else (zeroR, 121) := rfl
  rw [e0]
  clear e0
  generalize rdR S.data.toList = R at R1 ⊢
  have P1 := fun w h => print_c R w h
  have hB0 := (Below.refl _ w).alloc (Nat.le_refl _) (.cells #[.int .i64 0, .int .i64 0, .int .i64 0, .int .i64 0, .int .i64 0, .int .i64 0, .bool false] 25)
  have HB := Lib.hid hB0
  have HT := Lib.hid (Seven.new w 25 (.int .i64 0) (.int .i64 0) (.int .i64 0) (.int .i64 0) (.int .i64 0) (.int .i64 0) (.bool false))
  have HF := Lib.hid (hf.below hB0)
  unfold priV at P1
  have eZ : rgv zeroR = .agg #[.int .i64 0, .int .i64 0, .int .i64 0, .int .i64 0, .int .i64 0, .int .i64 0, .bool false] := rfl
  clear hB0 hf
  by_cases hm : mayR R = true
  · rw [if_pos hm] at P1
    by_cases ht : textR R = S.data.toList
    · rw [if_pos ⟨hm, ht⟩]
      rw [ht, Lib.mk_data] at P1
      have t1 : (S.toList == S.toList) = true := beq_self_eq_true _
      clear hm ht eZ
      obtain ⟨⟨ak, an, am⟩, ⟨bk, bn, bm⟩, nt⟩ := R
      unfold parV
      unfold rgv at R1 P1 ⊢
      simp only at R1 P1 ⊢
      have HR := Lib.hid R1
      have HP := Lib.hid P1
      clear R1 P1
      go_enter Tryz.func9, Tryz.ntmps9
      go_wp2_with fail
      refine (HR.out _ HF.out).mono ?_
      rintro e w1 ⟨rfl, hB⟩
      have HB1 := Lib.hid (HB.out.trans (hB.mono HB.out.size))
      have HF1 := Lib.hid (HF.out.below hB)
      have HT1 := Lib.hid (HT.out.beside hB)
      clear hB
      have hB2 := (Below.refl _ w1).alloc (Nat.le_refl _) (.cells #[.int .i64 ak, .int .i64 an, .int .i64 am, .int .i64 bk, .int .i64 bn, .int .i64 bm, .bool nt] 25)
      have HQ1 := Lib.hid (Seven.new w1 25 (.int .i64 ak) (.int .i64 an) (.int .i64 am) (.int .i64 bk) (.int .i64 bn) (.int .i64 bm) (.bool nt))
      have HB2 := Lib.hid (HB1.out.trans (hB2.mono HB1.out.size))
      have HF2 := Lib.hid (HF1.out.below hB2)
      have HT2 := Lib.hid (HT1.out.beside hB2)
      clear hB2
      go_wp2_with fail
      refine (HP.out _ HF2.out).mono ?_
      rintro e w2 ⟨rfl, hB⟩
      have HQ2 := Lib.hid (HQ1.out.beside hB)
      have HB3 := Lib.hid (HB2.out.trans (hB.mono HB2.out.size))
      have HF3 := Lib.hid (HF2.out.below hB)
      have HT3 := Lib.hid (HT2.out.beside hB)
      clear hB
      have c0 := HT3.out.c0
      have f0 := HT3.out.fz 0
      have g0 := HQ2.out.c0
      have c1 := HT3.out.c1
      have f1 := HT3.out.fz 1
      have g1 := HQ2.out.c1
      have c2 := HT3.out.c2
      have f2 := HT3.out.fz 2
      have g2 := HQ2.out.c2
      have c3 := HT3.out.c3
      have f3 := HT3.out.fz 3
      have g3 := HQ2.out.c3
      have c4 := HT3.out.c4
      have f4 := HT3.out.fz 4
      have g4 := HQ2.out.c4
      have c5 := HT3.out.c5
      have f5 := HT3.out.fz 5
      have g5 := HQ2.out.c5
      have c6 := HT3.out.c6
      have f6 := HT3.out.fz 6
      have g6 := HQ2.out.c6
      have HS := Lib.hid (HT3.out.s (.int .i64 ak) (.int .i64 an) (.int .i64 am) (.int .i64 bk) (.int .i64 bn) (.int .i64 bm) (.bool nt))
      have HBS := Lib.hid (Below.set7 HB3.out (b := w.heap.size) (Nat.le_refl _) (.int .i64 ak) (.int .i64 an) (.int .i64 am) (.int .i64 bk) (.int .i64 bn) (.int .i64 bm) (.bool nt))
      go_wp2
      refine bodyPost_ret (v := .tuple #[.agg #[.int .i64 ak, .int .i64 an, .int .i64 am, .int .i64 bk, .int .i64 bn, .int .i64 bm, .bool nt], .int .i64 0]) (by simp [results, Tryz.results9, go_sem, HS.out.c0, HS.out.c1, HS.out.c2, HS.out.c3, HS.out.c4, HS.out.c5, HS.out.c6]) rfl ⟨rfl, HBS.out⟩
    · rw [if_neg (fun h => ht h.2)]
      have t1 : ((⟨(textR R).toArray⟩ : ByteArray).toList == S.toList) = false := by
        rw [beq_eq_false_iff_ne, Lib.toList_data, Lib.toList_data]; exact ht
      generalize (⟨(textR R).toArray⟩ : ByteArray) = TX at P1 t1
      clear hm ht
      obtain ⟨⟨ak, an, am⟩, ⟨bk, bn, bm⟩, nt⟩ := R
      unfold parV
      rw [eZ]
      clear eZ
      unfold rgv at R1 P1
      simp only at R1 P1 ⊢
      have HR := Lib.hid R1
      have HP := Lib.hid P1
      clear R1 P1
      go_enter Tryz.func9, Tryz.ntmps9
      go_wp2_with fail
      refine (HR.out _ HF.out).mono ?_
      rintro e w1 ⟨rfl, hB⟩
      have HB1 := Lib.hid (HB.out.trans (hB.mono HB.out.size))
      have HF1 := Lib.hid (HF.out.below hB)
      have HT1 := Lib.hid (HT.out.beside hB)
      clear hB
      have hB2 := (Below.refl _ w1).alloc (Nat.le_refl _) (.cells #[.int .i64 ak, .int .i64 an, .int .i64 am, .int .i64 bk, .int .i64 bn, .int .i64 bm, .bool nt] 25)
      have HQ1 := Lib.hid (Seven.new w1 25 (.int .i64 ak) (.int .i64 an) (.int .i64 am) (.int .i64 bk) (.int .i64 bn) (.int .i64 bm) (.bool nt))
      have HB2 := Lib.hid (HB1.out.trans (hB2.mono HB1.out.size))
      have HF2 := Lib.hid (HF1.out.below hB2)
      have HT2 := Lib.hid (HT1.out.beside hB2)
      clear hB2
      go_wp2_with fail
      refine (HP.out _ HF2.out).mono ?_
      rintro e w2 ⟨rfl, hB⟩
      have HQ2 := Lib.hid (HQ1.out.beside hB)
      have HB3 := Lib.hid (HB2.out.trans (hB.mono HB2.out.size))
      have HF3 := Lib.hid (HF2.out.below hB)
      have HT3 := Lib.hid (HT2.out.beside hB)
      clear hB
      have c0 := HT3.out.c0
      have f0 := HT3.out.fz 0
      have g0 := HQ2.out.c0
      have c1 := HT3.out.c1
      have f1 := HT3.out.fz 1
      have g1 := HQ2.out.c1
      have c2 := HT3.out.c2
      have f2 := HT3.out.fz 2
      have g2 := HQ2.out.c2
      have c3 := HT3.out.c3
      have f3 := HT3.out.fz 3
      have g3 := HQ2.out.c3
      have c4 := HT3.out.c4
      have f4 := HT3.out.fz 4
      have g4 := HQ2.out.c4
      have c5 := HT3.out.c5
      have f5 := HT3.out.fz 5
      have g5 := HQ2.out.c5
      have c6 := HT3.out.c6
      have f6 := HT3.out.fz 6
      have g6 := HQ2.out.c6
      have HS := Lib.hid (HT3.out.s (.int .i64 0) (.int .i64 0) (.int .i64 0) (.int .i64 0) (.int .i64 0) (.int .i64 0) (.bool false))
      have HBS := Lib.hid (Below.set7 HB3.out (b := w.heap.size) (Nat.le_refl _) (.int .i64 0) (.int .i64 0) (.int .i64 0) (.int .i64 0) (.int .i64 0) (.int .i64 0) (.bool false))
      go_wp2
      refine bodyPost_ret (v := .tuple #[.agg #[.int .i64 0, .int .i64 0, .int .i64 0, .int .i64 0, .int .i64 0, .int .i64 0, .bool false], .int .i64 121]) (by simp [results, Tryz.results9, go_sem, HS.out.c0, HS.out.c1, HS.out.c2, HS.out.c3, HS.out.c4, HS.out.c5, HS.out.c6]) rfl ⟨rfl, HBS.out⟩
  · rw [if_neg (fun h => hm h.1)]
    rw [if_neg hm] at P1
    clear hm
    obtain ⟨⟨ak, an, am⟩, ⟨bk, bn, bm⟩, nt⟩ := R
    unfold parV
    rw [eZ]
    clear eZ
    unfold rgv at R1 P1
    simp only at R1 P1 ⊢
    have HR := Lib.hid R1
    have HP := Lib.hid P1
    clear R1 P1
    go_enter Tryz.func9, Tryz.ntmps9
    go_wp2_with fail
    refine (HR.out _ HF.out).mono ?_
    rintro e w1 ⟨rfl, hB⟩
    have HB1 := Lib.hid (HB.out.trans (hB.mono HB.out.size))
    have HF1 := Lib.hid (HF.out.below hB)
    have HT1 := Lib.hid (HT.out.beside hB)
    clear hB
    have hB2 := (Below.refl _ w1).alloc (Nat.le_refl _) (.cells #[.int .i64 ak, .int .i64 an, .int .i64 am, .int .i64 bk, .int .i64 bn, .int .i64 bm, .bool nt] 25)
    have HQ1 := Lib.hid (Seven.new w1 25 (.int .i64 ak) (.int .i64 an) (.int .i64 am) (.int .i64 bk) (.int .i64 bn) (.int .i64 bm) (.bool nt))
    have HB2 := Lib.hid (HB1.out.trans (hB2.mono HB1.out.size))
    have HF2 := Lib.hid (HF1.out.below hB2)
    have HT2 := Lib.hid (HT1.out.beside hB2)
    clear hB2
    go_wp2_with fail
    refine (HP.out _ HF2.out).mono ?_
    rintro e w2 ⟨rfl, hB⟩
    have HQ2 := Lib.hid (HQ1.out.beside hB)
    have HB3 := Lib.hid (HB2.out.trans (hB.mono HB2.out.size))
    have HF3 := Lib.hid (HF2.out.below hB)
    have HT3 := Lib.hid (HT2.out.beside hB)
    clear hB
    have c0 := HT3.out.c0
    have f0 := HT3.out.fz 0
    have g0 := HQ2.out.c0
    have c1 := HT3.out.c1
    have f1 := HT3.out.fz 1
    have g1 := HQ2.out.c1
    have c2 := HT3.out.c2
    have f2 := HT3.out.fz 2
    have g2 := HQ2.out.c2
    have c3 := HT3.out.c3
    have f3 := HT3.out.fz 3
    have g3 := HQ2.out.c3
    have c4 := HT3.out.c4
    have f4 := HT3.out.fz 4
    have g4 := HQ2.out.c4
    have c5 := HT3.out.c5
    have f5 := HT3.out.fz 5
    have g5 := HQ2.out.c5
    have c6 := HT3.out.c6
    have f6 := HT3.out.fz 6
    have g6 := HQ2.out.c6
    have HS := Lib.hid (HT3.out.s (.int .i64 0) (.int .i64 0) (.int .i64 0) (.int .i64 0) (.int .i64 0) (.int .i64 0) (.bool false))
    have HBS := Lib.hid (Below.set7 HB3.out (b := w.heap.size) (Nat.le_refl _) (.int .i64 0) (.int .i64 0) (.int .i64 0) (.int .i64 0) (.int .i64 0) (.int .i64 0) (.bool false))
    go_wp2
    refine bodyPost_ret (v := .tuple #[.agg #[.int .i64 0, .int .i64 0, .int .i64 0, .int .i64 0, .int .i64 0, .int .i64 0, .bool false], .int .i64 121]) (by simp [results, Tryz.results9, go_sem, HS.out.c0, HS.out.c1, HS.out.c2, HS.out.c3, HS.out.c4, HS.out.c5, HS.out.c6]) rfl ⟨rfl, HBS.out⟩

end Go.Proofs.YtaamhjjdhebjfaaGreatDoor
