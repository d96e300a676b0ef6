/- The text of an address; Print. -/
import Derived.Test.YtaamhjjdhebjfaaGreatDoorAdK
namespace Go.Proofs.YtaamhjjdhebjfaaGreatDoor
open Go.RowKit Go.Lib
set_option linter.unusedVariables false
set_option linter.unusedSimpArgs false

theorem ba_app (a b : List UInt8) : (⟨a.toArray⟩ : ByteArray) ++ ⟨b.toArray⟩ = ⟨(a ++ b).toArray⟩ := by
  apply ByteArray.ext
  apply Array.ext'
  simp
theorem ba_size (l : List UInt8) : (⟨l.toArray⟩ : ByteArray).size = l.length := by simp [ByteArray.size]
theorem textA_len {a : Ad} (h : isAd a = true) : (textA a).length ≤ 24 := by
  obtain ⟨k0, k6, n0, n9, m0, m9⟩ := isAd.nums h
  have h1 := itoa_len a.n n0 (by omega)
  have h2 := itoa_len a.m m0 (by omega)
  unfold textA
  split
  · omega
  split
  · simp
  split
  · rw [List.length_append, List.length_cons]; omega
  split
  · rw [List.length_cons, List.length_append, List.length_cons, List.length_nil]; omega
  split
  · rw [List.length_cons]; omega
  split
  · rw [List.length_cons]; omega
  · simp

set_option maxRecDepth 100000 in
set_option maxHeartbeats 8000000 in
theorem textof_c (a : Ad) (ha : isAd a = true) (w : World) (hf : Fit6 w) : Calls Tryz.prog 16 #[adv a] w fun e w' => e = .returned (.string ⟨(textA a).toArray⟩) ∧ Below w.heap.size w w' := by
  obtain ⟨k, n, m⟩ := a
  obtain ⟨k0, k6, n0, n9, m0, m9⟩ := isAd.nums ha
  simp only at k0 k6 n0 n9 m0 m9
  have HI := Lib.hid (fun w h => itoa_c n n0 (by omega) w h)
  have HJ := Lib.hid (fun w h => itoa_c m m0 (by omega) w h)
  have hl := itoa_len n n0 (by omega)
  have hl' := itoa_len m m0 (by omega)
  unfold adv
  simp only
  have hB0 := (Below.refl _ w).alloc (Nat.le_refl _) (.cells #[.int .i64 k, .int .i64 n, .int .i64 m] 23)
  have HB := Lib.hid (And.intro hB0 (Three.new w 23 (.int .i64 k) (.int .i64 n) (.int .i64 m)))
  have HF := Lib.hid (hf.below hB0)
  obtain ⟨H, hH⟩ : ∃ H : ByteArray, H = ⟨(itoa n).toArray⟩ := ⟨_, rfl⟩
  obtain ⟨J, hJ⟩ : ∃ H : ByteArray, H = ⟨(itoa m).toArray⟩ := ⟨_, rfl⟩
  rw [← hH] at HI
  rw [← hJ] at HJ
  have hs : H.size ≤ 11 := by rw [hH, ba_size]; exact hl
  have hs' : J.size ≤ 11 := by rw [hJ, ba_size]; exact hl'
  have HH := Lib.hid hH
  have HHJ := Lib.hid hJ
  have q1 : (9223372036854775807 < H.size + 1) = False := by simp; omega
  have q2 : (9223372036854775807 < (H.size + 1) + J.size) = False := by simp; omega
  have q3 : (9223372036854775807 < 1 + H.size) = False := by simp; omega
  have q4 : (9223372036854775807 < 1 + H.size + 1) = False := by simp; omega
  clear hf hB0 ha n0 n9 m0 m9 hl hl' hH hJ
  rcases (by omega : k = 0 ∨ k = 1 ∨ k = 2 ∨ k = 3 ∨ k = 4 ∨ k = 5 ∨ k = 6) with rfl | rfl | rfl | rfl | rfl | rfl | rfl
  · rw [show textA ⟨0, n, m⟩ = [] from rfl]
    clear k0 k6
    go_enter Tryz.func16, Tryz.ntmps16
    go_wp2_with fail
    refine (HI.out _ HF.out).mono ?_
    rintro e w1 ⟨rfl, hB⟩
    have HB1 := Lib.hid (And.intro (HB.out.1.trans (hB.mono HB.out.1.size)) (HB.out.2.beside hB))
    have HF1 := Lib.hid (HF.out.below hB)
    clear hB
    have g0 := HB1.out.2.c0
    have g1 := HB1.out.2.c1
    have g2 := HB1.out.2.c2
    go_wp2
    go_ret
    exact ⟨rfl, HB1.out.1⟩
  · rw [show textA ⟨1, n, m⟩ = itoa n from rfl]
    clear k0 k6
    go_enter Tryz.func16, Tryz.ntmps16
    go_wp2_with fail
    refine (HI.out _ HF.out).mono ?_
    rintro e w1 ⟨rfl, hB⟩
    have HB1 := Lib.hid (And.intro (HB.out.1.trans (hB.mono HB.out.1.size)) (HB.out.2.beside hB))
    have HF1 := Lib.hid (HF.out.below hB)
    clear hB
    have g0 := HB1.out.2.c0
    have g1 := HB1.out.2.c1
    have g2 := HB1.out.2.c2
    go_wp2
    go_ret
    exact ⟨by rw [← HH.out]; rfl, HB1.out.1⟩
  · rw [show textA ⟨2, n, m⟩ = [36] from rfl]
    clear k0 k6
    go_enter Tryz.func16, Tryz.ntmps16
    go_wp2_with fail
    refine (HI.out _ HF.out).mono ?_
    rintro e w1 ⟨rfl, hB⟩
    have HB1 := Lib.hid (And.intro (HB.out.1.trans (hB.mono HB.out.1.size)) (HB.out.2.beside hB))
    have HF1 := Lib.hid (HF.out.below hB)
    clear hB
    have g0 := HB1.out.2.c0
    have g1 := HB1.out.2.c1
    have g2 := HB1.out.2.c2
    go_wp2
    go_ret
    exact ⟨rfl, HB1.out.1⟩
  · rw [show textA ⟨3, n, m⟩ = itoa n ++ 126 :: itoa m from rfl]
    clear k0 k6
    go_enter Tryz.func16, Tryz.ntmps16
    go_wp2_with fail
    refine (HI.out _ HF.out).mono ?_
    rintro e w1 ⟨rfl, hB⟩
    have HB1 := Lib.hid (And.intro (HB.out.1.trans (hB.mono HB.out.1.size)) (HB.out.2.beside hB))
    have HF1 := Lib.hid (HF.out.below hB)
    clear hB
    have g0 := HB1.out.2.c0
    have g1 := HB1.out.2.c1
    have g2 := HB1.out.2.c2
    go_wp2_with fail
    refine (HJ.out _ HF1.out).mono ?_
    rintro e w2 ⟨rfl, hB⟩
    have HB2 := Lib.hid (HB1.out.1.trans (hB.mono HB1.out.1.size))
    clear hB
    go_wp2
    go_ret
    refine ⟨?_, HB2.out⟩
    have e1 : (⟨(itoa n ++ 126 :: itoa m).toArray⟩ : ByteArray) = H ++ ⟨#[126]⟩ ++ J := by
      rw [HH.out, HHJ.out, show (⟨#[126]⟩ : ByteArray) = ⟨[126].toArray⟩ from rfl, ba_app, ba_app]; simp
    rw [e1]; rfl
  · rw [show textA ⟨4, n, m⟩ = 47 :: (itoa n ++ [47]) from rfl]
    clear k0 k6
    go_enter Tryz.func16, Tryz.ntmps16
    go_wp2_with fail
    refine (HI.out _ HF.out).mono ?_
    rintro e w1 ⟨rfl, hB⟩
    have HB1 := Lib.hid (And.intro (HB.out.1.trans (hB.mono HB.out.1.size)) (HB.out.2.beside hB))
    have HF1 := Lib.hid (HF.out.below hB)
    clear hB
    have g0 := HB1.out.2.c0
    have g1 := HB1.out.2.c1
    have g2 := HB1.out.2.c2
    go_wp2
    go_ret
    refine ⟨?_, HB1.out.1⟩
    have e1 : (⟨(47 :: (itoa n ++ [47])).toArray⟩ : ByteArray) = ⟨#[47]⟩ ++ H ++ ⟨#[47]⟩ := by
      rw [HH.out, show (⟨#[47]⟩ : ByteArray) = ⟨[47].toArray⟩ from rfl, ba_app, ba_app]; simp
    rw [e1]; rfl
  · rw [show textA ⟨5, n, m⟩ = 43 :: itoa n from rfl]
    clear k0 k6
    go_enter Tryz.func16, Tryz.ntmps16
    go_wp2_with fail
    refine (HI.out _ HF.out).mono ?_
    rintro e w1 ⟨rfl, hB⟩
    have HB1 := Lib.hid (And.intro (HB.out.1.trans (hB.mono HB.out.1.size)) (HB.out.2.beside hB))
    have HF1 := Lib.hid (HF.out.below hB)
    clear hB
    have g0 := HB1.out.2.c0
    have g1 := HB1.out.2.c1
    have g2 := HB1.out.2.c2
    go_wp2
    go_ret
    refine ⟨?_, HB1.out.1⟩
    have e1 : (⟨(43 :: itoa n).toArray⟩ : ByteArray) = ⟨#[43]⟩ ++ H := by
      rw [HH.out, show (⟨#[43]⟩ : ByteArray) = ⟨[43].toArray⟩ from rfl, ba_app]; simp
    rw [e1]; rfl
  · rw [show textA ⟨6, n, m⟩ = 126 :: itoa n from rfl]
    clear k0 k6
    go_enter Tryz.func16, Tryz.ntmps16
    go_wp2_with fail
    refine (HI.out _ HF.out).mono ?_
    rintro e w1 ⟨rfl, hB⟩
    have HB1 := Lib.hid (And.intro (HB.out.1.trans (hB.mono HB.out.1.size)) (HB.out.2.beside hB))
    have HF1 := Lib.hid (HF.out.below hB)
    clear hB
    have g0 := HB1.out.2.c0
    have g1 := HB1.out.2.c1
    have g2 := HB1.out.2.c2
    go_wp2
    go_ret
    refine ⟨?_, HB1.out.1⟩
    have e1 : (⟨(126 :: itoa n).toArray⟩ : ByteArray) = ⟨#[126]⟩ ++ H := by
      rw [HH.out, show (⟨#[126]⟩ : ByteArray) = ⟨[126].toArray⟩ from rfl, ba_app]; simp
    rw [e1]; rfl

def priV (r : Rg) : Value := if mayR r then .tuple #[.string ⟨(textR r).toArray⟩, .int .i64 0] else .tuple #[.string ⟨#[]⟩, .int .i64 1]
set_option maxRecDepth 100000 in
set_option maxHeartbeats 8000000 in
theorem print_c (r : Rg) (w : World) (hf : Fit6 w) : Calls Tryz.prog 6 #[rgv r] w fun e w' => e = .returned (priV r) ∧ Below w.heap.size w w' := by
  unfold priV
  have HM0 := fun w => may_c r w
  cases hm : mayR r
  · rw [hm] at HM0
    obtain ⟨⟨ak, an, am⟩, ⟨bk, bn, bm⟩, nt⟩ := r
    unfold rgv at HM0 ⊢
    simp only [Bool.false_eq_true, if_false] at HM0 ⊢
    have HM := Lib.hid HM0
    have HB := Lib.hid ((Below.refl _ w).alloc (Nat.le_refl _) (.cells #[.int .i64 ak, .int .i64 an, .int .i64 am, .int .i64 bk, .int .i64 bn, .int .i64 bm, .bool nt] 25))
    clear HM0 hm hf
    go_enter Tryz.func6, Tryz.ntmps6
    go_wp2_with fail
    refine (HM.out _).mono ?_
    rintro e w1 ⟨rfl, hB⟩
    have HB1 := Lib.hid (HB.out.trans (hB.mono HB.out.size))
    clear hB
    go_wp2
    go_ret2
    exact ⟨rfl, HB1.out⟩
  · rw [hm] at HM0
    obtain ⟨ha, hb, _⟩ := mayR_iff.1 hm
    obtain ⟨⟨ak, an, am⟩, ⟨bk, bn, bm⟩, nt⟩ := r
    simp only at ha hb
    have HT0 := fun w h => textof_c ⟨ak, an, am⟩ ha w h
    have HU0 := fun w h => textof_c ⟨bk, bn, bm⟩ hb w h
    have hl := textA_len ha
    have hl' := textA_len hb
    have eR : textR ⟨⟨ak, an, am⟩, ⟨bk, bn, bm⟩, nt⟩ = textA ⟨ak, an, am⟩ ++ ((if bk = 0 then [] else 44 :: textA ⟨bk, bn, bm⟩) ++ if nt then [33] else []) := rfl
    rw [eR]
    clear eR ha hb
    generalize textA ⟨ak, an, am⟩ = ta at HT0 hl ⊢
    generalize textA ⟨bk, bn, bm⟩ = tb at HU0 hl' ⊢
    unfold rgv at HM0 ⊢
    unfold adv at HT0 HU0
    simp only [if_true] at HM0 HT0 HU0 ⊢
    have HM := Lib.hid HM0
    have hB0 := (Below.refl _ w).alloc (Nat.le_refl _) (.cells #[.int .i64 ak, .int .i64 an, .int .i64 am, .int .i64 bk, .int .i64 bn, .int .i64 bm, .bool nt] 25)
    have HB := Lib.hid (And.intro hB0 (Seven.new w 25 (.int .i64 ak) (.int .i64 an) (.int .i64 am) (.int .i64 bk) (.int .i64 bn) (.int .i64 bm) (.bool nt)))
    have HF := Lib.hid (hf.below hB0)
    obtain ⟨H, hH⟩ : ∃ H : ByteArray, H = ⟨ta.toArray⟩ := ⟨_, rfl⟩
    obtain ⟨J, hJ⟩ : ∃ H : ByteArray, H = ⟨tb.toArray⟩ := ⟨_, rfl⟩
    rw [← hH] at HT0
    rw [← hJ] at HU0
    have hs : H.size ≤ 24 := by rw [hH, ba_size]; exact hl
    have hs' : J.size ≤ 24 := by rw [hJ, ba_size]; exact hl'
    have HT := Lib.hid HT0
    have HU := Lib.hid HU0
    have HH := Lib.hid hH
    have HHJ := Lib.hid hJ
    have q1 : (9223372036854775807 < 1 + J.size) = False := by simp; omega
    have q2 : (9223372036854775807 < H.size + (1 + J.size)) = False := by simp; omega
    have q3 : (9223372036854775807 < H.size + 1) = False := by simp; omega
    have q4 : (9223372036854775807 < H.size + (1 + J.size) + 1) = False := by simp; omega
    clear HM0 hm hf HT0 HU0 hl hl' hB0 hH hJ
    by_cases h0 : bk = 0
    · subst h0
      rw [if_pos rfl]
      go_enter Tryz.func6, Tryz.ntmps6
      go_wp2_with fail
      refine (HM.out _).mono ?_
      rintro e w1 ⟨rfl, hB⟩
      have HB1 := Lib.hid (And.intro (HB.out.1.trans (hB.mono HB.out.1.size)) (HB.out.2.beside hB))
      have HF1 := Lib.hid (HF.out.below hB)
      clear hB
      have g0 := HB1.out.2.c0
      have g1 := HB1.out.2.c1
      have g2 := HB1.out.2.c2
      have g3 := HB1.out.2.c3
      have g4 := HB1.out.2.c4
      have g5 := HB1.out.2.c5
      have g6 := HB1.out.2.c6
      go_wp2_with fail
      refine (HT.out _ HF1.out).mono ?_
      rintro e w2 ⟨rfl, hB⟩
      have HB2 := Lib.hid (And.intro (HB1.out.1.trans (hB.mono HB1.out.1.size)) (HB1.out.2.beside hB))
      have HF2 := Lib.hid (HF1.out.below hB)
      clear hB g0 g1 g2 g3 g4 g5 g6
      have g0 := HB2.out.2.c0
      have g1 := HB2.out.2.c1
      have g2 := HB2.out.2.c2
      have g3 := HB2.out.2.c3
      have g4 := HB2.out.2.c4
      have g5 := HB2.out.2.c5
      have g6 := HB2.out.2.c6
      cases nt
      · go_wp2
        go_ret2
        refine ⟨?_, HB2.out.1⟩
        show Ending.returned (.tuple #[.string (H), .int .i64 0]) = _
        rw [HH.out]
        try (first | rfl | simp)
      · go_wp2
        go_ret2
        refine ⟨?_, HB2.out.1⟩
        show Ending.returned (.tuple #[.string (H ++ ⟨#[33]⟩), .int .i64 0]) = _
        rw [HH.out, show (⟨#[33]⟩ : ByteArray) = ⟨[33].toArray⟩ from rfl, ba_app]
        try (first | rfl | simp)
    · rw [if_neg h0]
      have t0 : (bk == 0) = false := by simpa using h0
      clear h0
      go_enter Tryz.func6, Tryz.ntmps6
      go_wp2_with fail
      refine (HM.out _).mono ?_
      rintro e w1 ⟨rfl, hB⟩
      have HB1 := Lib.hid (And.intro (HB.out.1.trans (hB.mono HB.out.1.size)) (HB.out.2.beside hB))
      have HF1 := Lib.hid (HF.out.below hB)
      clear hB
      have g0 := HB1.out.2.c0
      have g1 := HB1.out.2.c1
      have g2 := HB1.out.2.c2
      have g3 := HB1.out.2.c3
      have g4 := HB1.out.2.c4
      have g5 := HB1.out.2.c5
      have g6 := HB1.out.2.c6
      go_wp2_with fail
      refine (HT.out _ HF1.out).mono ?_
      rintro e w2 ⟨rfl, hB⟩
      have HB2 := Lib.hid (And.intro (HB1.out.1.trans (hB.mono HB1.out.1.size)) (HB1.out.2.beside hB))
      have HF2 := Lib.hid (HF1.out.below hB)
      clear hB g0 g1 g2 g3 g4 g5 g6
      have g0 := HB2.out.2.c0
      have g1 := HB2.out.2.c1
      have g2 := HB2.out.2.c2
      have g3 := HB2.out.2.c3
      have g4 := HB2.out.2.c4
      have g5 := HB2.out.2.c5
      have g6 := HB2.out.2.c6
      go_wp2_with fail
      refine (HU.out _ HF2.out).mono ?_
      rintro e w3 ⟨rfl, hB⟩
      have HB3 := Lib.hid (And.intro (HB2.out.1.trans (hB.mono HB2.out.1.size)) (HB2.out.2.beside hB))
      have HF3 := Lib.hid (HF2.out.below hB)
      clear hB g0 g1 g2 g3 g4 g5 g6
      have g0 := HB3.out.2.c0
      have g1 := HB3.out.2.c1
      have g2 := HB3.out.2.c2
      have g3 := HB3.out.2.c3
      have g4 := HB3.out.2.c4
      have g5 := HB3.out.2.c5
      have g6 := HB3.out.2.c6
      cases nt
      · go_wp2
        go_ret2
        refine ⟨?_, HB3.out.1⟩
        show Ending.returned (.tuple #[.string (H ++ (⟨#[44]⟩ ++ J)), .int .i64 0]) = _
        rw [HH.out, HHJ.out, show (⟨#[44]⟩ : ByteArray) = ⟨[44].toArray⟩ from rfl, ba_app, ba_app]
        try (first | rfl | simp)
      · go_wp2
        go_ret2
        refine ⟨?_, HB3.out.1⟩
        show Ending.returned (.tuple #[.string (H ++ (⟨#[44]⟩ ++ J) ++ ⟨#[33]⟩), .int .i64 0]) = _
        rw [HH.out, HHJ.out, show (⟨#[44]⟩ : ByteArray) = ⟨[44].toArray⟩ from rfl, show (⟨#[33]⟩ : ByteArray) = ⟨[33].toArray⟩ from rfl, ba_app, ba_app, ba_app]
        try (first | rfl | simp)

end Go.Proofs.YtaamhjjdhebjfaaGreatDoor
