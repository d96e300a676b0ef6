/- The reference's May, show, Print. -/
import Derived.Test.YtaamhjjdhebjfaaGreatDoorAdZa
namespace Go.Proofs.YtaamhjjdhebjfaaGreatDoor
open Go.RowKit Go.Lib
set_option linter.unusedVariables false
set_option linter.unusedSimpArgs false

set_option maxRecDepth 100000 in
set_option maxHeartbeats 8000000 in
theorem rmay_c (r : Rg) (w : World) : Calls Tryz.prog 12 #[rgv r] w fun e w' => e = .returned (.bool (mayR r)) ∧ Below w.heap.size w w' := by
  obtain ⟨⟨ak, an, am⟩, ⟨bk, bn, bm⟩, nt⟩ := r
  have hB0 := (Below.refl _ w).alloc (Nat.le_refl _) (.cells #[.int .i64 ak, .int .i64 an, .int .i64 am, .int .i64 bk, .int .i64 bn, .int .i64 bm, .bool nt] 33)
  have HB := Lib.hid (And.intro hB0 (Seven.new w 33 (.int .i64 ak) (.int .i64 an) (.int .i64 am) (.int .i64 bk) (.int .i64 bn) (.int .i64 bm) (.bool nt)))
  have HX0 := fun w => rone_c ⟨ak, an, am⟩ w
  have HY0 := fun w => rone_c ⟨bk, bn, bm⟩ w
  have e0 : mayR ⟨⟨ak, an, am⟩, ⟨bk, bn, bm⟩, nt⟩ = (isAd ⟨ak, an, am⟩ && isAd ⟨bk, bn, bm⟩ && !decide (bk = 3) && !decide (5 ≤ ak) && (!decide (ak = 0) || decide (bk = 0)) && (!decide (ak = 1 ∧ an = 0) || decide (bk = 4))) := rfl
  rw [e0]
  clear e0 hB0
  generalize isAd ⟨ak, an, am⟩ = X at HX0 ⊢
  generalize isAd ⟨bk, bn, bm⟩ = Y at HY0 ⊢
  unfold adv at HX0 HY0
  unfold rgv
  simp only at HX0 HY0
  have HX := Lib.hid HX0
  have HY := Lib.hid HY0
  clear HX0 HY0
  have CY : ∀ w1, Below (w.alloc (.cells #[.int .i64 ak, .int .i64 an, .int .i64 am, .int .i64 bk, .int .i64 bn, .int .i64 bm, .bool nt] 33)).heap.size (w.alloc (.cells #[.int .i64 ak, .int .i64 an, .int .i64 am, .int .i64 bk, .int .i64 bn, .int .i64 bm, .bool nt] 33)) w1 → Below w.heap.size w w1 ∧ Seven w1 w.heap.size 33 (.int .i64 ak) (.int .i64 an) (.int .i64 am) (.int .i64 bk) (.int .i64 bn) (.int .i64 bm) (.bool nt) :=
    fun w1 h => ⟨HB.out.1.trans (h.mono HB.out.1.size), HB.out.2.beside h⟩
  have CC := Lib.hid CY
  clear CY
  cases X
  · simp only [Bool.false_and]
    go_enter Tryz.func12, Tryz.ntmps12
    go_wp2_with fail
    refine (HX.out _).mono ?_
    rintro e w1 ⟨rfl, hB⟩
    have HB1 := Lib.hid (CC.out _ hB)
    clear hB
    have g0 := HB1.out.2.c0
    have g1 := HB1.out.2.c1
    have g2 := HB1.out.2.c2
    have g3 := HB1.out.2.c3
    have g4 := HB1.out.2.c4
    have g5 := HB1.out.2.c5
    have g6 := HB1.out.2.c6
    go_wp2
    go_ret
    exact ⟨by simp, HB1.out.1⟩
  · simp only [Bool.true_and]
    cases Y
    · simp only [Bool.false_and]
      go_enter Tryz.func12, Tryz.ntmps12
      go_wp2_with fail
      refine (HX.out _).mono ?_
      rintro e w1 ⟨rfl, hB⟩
      have HB1 := Lib.hid (CC.out _ hB)
      clear hB
      have g0 := HB1.out.2.c0
      have g1 := HB1.out.2.c1
      have g2 := HB1.out.2.c2
      have g3 := HB1.out.2.c3
      have g4 := HB1.out.2.c4
      have g5 := HB1.out.2.c5
      have g6 := HB1.out.2.c6
      go_wp2_with fail
      refine (HY.out _).mono ?_
      rintro e w2 ⟨rfl, hB⟩
      have HB2 := Lib.hid (And.intro (HB1.out.1.trans (hB.mono HB1.out.1.size)) (HB1.out.2.beside hB))
      clear hB g0 g1 g2 g3 g4 g5 g6
      have g0 := HB2.out.2.c0
      have g1 := HB2.out.2.c1
      have g2 := HB2.out.2.c2
      have g3 := HB2.out.2.c3
      have g4 := HB2.out.2.c4
      have g5 := HB2.out.2.c5
      have g6 := HB2.out.2.c6
      go_wp2
      go_ret
      exact ⟨by simp, HB2.out.1⟩
    · simp only [Bool.true_and]
      by_cases h5 : 5 ≤ ak
      · have r5 : decide (5 ≤ ak) = true := by simp [h5]
        go_enter Tryz.func12, Tryz.ntmps12
        go_wp2_with fail
        refine (HX.out _).mono ?_
        rintro e w1 ⟨rfl, hB⟩
        have HB1 := Lib.hid (CC.out _ hB)
        clear hB
        have g0 := HB1.out.2.c0
        have g1 := HB1.out.2.c1
        have g2 := HB1.out.2.c2
        have g3 := HB1.out.2.c3
        have g4 := HB1.out.2.c4
        have g5 := HB1.out.2.c5
        have g6 := HB1.out.2.c6
        go_wp2_with fail
        refine (HY.out _).mono ?_
        rintro e w2 ⟨rfl, hB⟩
        have HB2 := Lib.hid (And.intro (HB1.out.1.trans (hB.mono HB1.out.1.size)) (HB1.out.2.beside hB))
        clear hB g0 g1 g2 g3 g4 g5 g6
        have g0 := HB2.out.2.c0
        have g1 := HB2.out.2.c1
        have g2 := HB2.out.2.c2
        have g3 := HB2.out.2.c3
        have g4 := HB2.out.2.c4
        have g5 := HB2.out.2.c5
        have g6 := HB2.out.2.c6
        go_wp2
        go_ret
        exact ⟨by simp [h5], HB2.out.1⟩
      · have r5 : decide (5 ≤ ak) = false := by simp; omega
        have r5' : ¬ 5 ≤ ak := h5
        by_cases h3 : bk = 3
        · subst h3
          go_enter Tryz.func12, Tryz.ntmps12
          go_wp2_with fail
          refine (HX.out _).mono ?_
          rintro e w1 ⟨rfl, hB⟩
          have HB1 := Lib.hid (CC.out _ hB)
          clear hB
          have g0 := HB1.out.2.c0
          have g1 := HB1.out.2.c1
          have g2 := HB1.out.2.c2
          have g3 := HB1.out.2.c3
          have g4 := HB1.out.2.c4
          have g5 := HB1.out.2.c5
          have g6 := HB1.out.2.c6
          go_wp2_with fail
          refine (HY.out _).mono ?_
          rintro e w2 ⟨rfl, hB⟩
          have HB2 := Lib.hid (And.intro (HB1.out.1.trans (hB.mono HB1.out.1.size)) (HB1.out.2.beside hB))
          clear hB g0 g1 g2 g3 g4 g5 g6
          have g0 := HB2.out.2.c0
          have g1 := HB2.out.2.c1
          have g2 := HB2.out.2.c2
          have g3 := HB2.out.2.c3
          have g4 := HB2.out.2.c4
          have g5 := HB2.out.2.c5
          have g6 := HB2.out.2.c6
          go_wp2
          go_ret
          exact ⟨by simp, HB2.out.1⟩
        · have t3 : (bk == 3) = false := by simpa using h3
          have H3 := Lib.hid h3
          by_cases h0 : ak = 0
          · subst h0
            clear h3 r5 r5' h5
            by_cases hb0 : bk = 0
            · subst hb0
              go_enter Tryz.func12, Tryz.ntmps12
              go_wp2_with fail
              refine (HX.out _).mono ?_
              rintro e w1 ⟨rfl, hB⟩
              have HB1 := Lib.hid (CC.out _ hB)
              clear hB
              have g0 := HB1.out.2.c0
              have g1 := HB1.out.2.c1
              have g2 := HB1.out.2.c2
              have g3 := HB1.out.2.c3
              have g4 := HB1.out.2.c4
              have g5 := HB1.out.2.c5
              have g6 := HB1.out.2.c6
              go_wp2_with fail
              refine (HY.out _).mono ?_
              rintro e w2 ⟨rfl, hB⟩
              have HB2 := Lib.hid (And.intro (HB1.out.1.trans (hB.mono HB1.out.1.size)) (HB1.out.2.beside hB))
              clear hB g0 g1 g2 g3 g4 g5 g6
              have g0 := HB2.out.2.c0
              have g1 := HB2.out.2.c1
              have g2 := HB2.out.2.c2
              have g3 := HB2.out.2.c3
              have g4 := HB2.out.2.c4
              have g5 := HB2.out.2.c5
              have g6 := HB2.out.2.c6
              go_wp2
              go_ret
              exact ⟨by simp, HB2.out.1⟩
            · have tb : (bk == 0) = false := by simpa using hb0
              go_enter Tryz.func12, Tryz.ntmps12
              go_wp2_with fail
              refine (HX.out _).mono ?_
              rintro e w1 ⟨rfl, hB⟩
              have HB1 := Lib.hid (CC.out _ hB)
              clear hB
              have g0 := HB1.out.2.c0
              have g1 := HB1.out.2.c1
              have g2 := HB1.out.2.c2
              have g3 := HB1.out.2.c3
              have g4 := HB1.out.2.c4
              have g5 := HB1.out.2.c5
              have g6 := HB1.out.2.c6
              go_wp2_with fail
              refine (HY.out _).mono ?_
              rintro e w2 ⟨rfl, hB⟩
              have HB2 := Lib.hid (And.intro (HB1.out.1.trans (hB.mono HB1.out.1.size)) (HB1.out.2.beside hB))
              clear hB g0 g1 g2 g3 g4 g5 g6
              have g0 := HB2.out.2.c0
              have g1 := HB2.out.2.c1
              have g2 := HB2.out.2.c2
              have g3 := HB2.out.2.c3
              have g4 := HB2.out.2.c4
              have g5 := HB2.out.2.c5
              have g6 := HB2.out.2.c6
              go_wp2
              go_ret
              exact ⟨by simp [hb0], HB2.out.1⟩
          · have t0 : (ak == 0) = false := by simpa using h0
            have H0 := Lib.hid h0
            have H5 := Lib.hid h5
            clear h0 h3
            by_cases h1 : ak = 1
            · subst h1
              by_cases hn : an = 0
              · subst hn
                by_cases hb4 : bk = 4
                · subst hb4
                  go_enter Tryz.func12, Tryz.ntmps12
                  go_wp2_with fail
                  refine (HX.out _).mono ?_
                  rintro e w1 ⟨rfl, hB⟩
                  have HB1 := Lib.hid (CC.out _ hB)
                  clear hB
                  have g0 := HB1.out.2.c0
                  have g1 := HB1.out.2.c1
                  have g2 := HB1.out.2.c2
                  have g3 := HB1.out.2.c3
                  have g4 := HB1.out.2.c4
                  have g5 := HB1.out.2.c5
                  have g6 := HB1.out.2.c6
                  go_wp2_with fail
                  refine (HY.out _).mono ?_
                  rintro e w2 ⟨rfl, hB⟩
                  have HB2 := Lib.hid (And.intro (HB1.out.1.trans (hB.mono HB1.out.1.size)) (HB1.out.2.beside hB))
                  clear hB g0 g1 g2 g3 g4 g5 g6
                  have g0 := HB2.out.2.c0
                  have g1 := HB2.out.2.c1
                  have g2 := HB2.out.2.c2
                  have g3 := HB2.out.2.c3
                  have g4 := HB2.out.2.c4
                  have g5 := HB2.out.2.c5
                  have g6 := HB2.out.2.c6
                  go_wp2
                  go_ret
                  exact ⟨by simp [H3.out, H5.out], HB2.out.1⟩
                · have tb : (bk == 4) = false := by simpa using hb4
                  go_enter Tryz.func12, Tryz.ntmps12
                  go_wp2_with fail
                  refine (HX.out _).mono ?_
                  rintro e w1 ⟨rfl, hB⟩
                  have HB1 := Lib.hid (CC.out _ hB)
                  clear hB
                  have g0 := HB1.out.2.c0
                  have g1 := HB1.out.2.c1
                  have g2 := HB1.out.2.c2
                  have g3 := HB1.out.2.c3
                  have g4 := HB1.out.2.c4
                  have g5 := HB1.out.2.c5
                  have g6 := HB1.out.2.c6
                  go_wp2_with fail
                  refine (HY.out _).mono ?_
                  rintro e w2 ⟨rfl, hB⟩
                  have HB2 := Lib.hid (And.intro (HB1.out.1.trans (hB.mono HB1.out.1.size)) (HB1.out.2.beside hB))
                  clear hB g0 g1 g2 g3 g4 g5 g6
                  have g0 := HB2.out.2.c0
                  have g1 := HB2.out.2.c1
                  have g2 := HB2.out.2.c2
                  have g3 := HB2.out.2.c3
                  have g4 := HB2.out.2.c4
                  have g5 := HB2.out.2.c5
                  have g6 := HB2.out.2.c6
                  go_wp2
                  go_ret
                  exact ⟨by simp [H3.out, H5.out, hb4], HB2.out.1⟩
              · have tn : (an == 0) = false := by simpa using hn
                go_enter Tryz.func12, Tryz.ntmps12
                go_wp2_with fail
                refine (HX.out _).mono ?_
                rintro e w1 ⟨rfl, hB⟩
                have HB1 := Lib.hid (CC.out _ hB)
                clear hB
                have g0 := HB1.out.2.c0
                have g1 := HB1.out.2.c1
                have g2 := HB1.out.2.c2
                have g3 := HB1.out.2.c3
                have g4 := HB1.out.2.c4
                have g5 := HB1.out.2.c5
                have g6 := HB1.out.2.c6
                go_wp2_with fail
                refine (HY.out _).mono ?_
                rintro e w2 ⟨rfl, hB⟩
                have HB2 := Lib.hid (And.intro (HB1.out.1.trans (hB.mono HB1.out.1.size)) (HB1.out.2.beside hB))
                clear hB g0 g1 g2 g3 g4 g5 g6
                have g0 := HB2.out.2.c0
                have g1 := HB2.out.2.c1
                have g2 := HB2.out.2.c2
                have g3 := HB2.out.2.c3
                have g4 := HB2.out.2.c4
                have g5 := HB2.out.2.c5
                have g6 := HB2.out.2.c6
                go_wp2
                go_ret
                exact ⟨by simp [H3.out, H5.out, hn], HB2.out.1⟩
            · have t1 : (ak == 1) = false := by simpa using h1
              have H1 := Lib.hid h1
              clear h1
              go_enter Tryz.func12, Tryz.ntmps12
              go_wp2_with fail
              refine (HX.out _).mono ?_
              rintro e w1 ⟨rfl, hB⟩
              have HB1 := Lib.hid (CC.out _ hB)
              clear hB
              have g0 := HB1.out.2.c0
              have g1 := HB1.out.2.c1
              have g2 := HB1.out.2.c2
              have g3 := HB1.out.2.c3
              have g4 := HB1.out.2.c4
              have g5 := HB1.out.2.c5
              have g6 := HB1.out.2.c6
              go_wp2_with fail
              refine (HY.out _).mono ?_
              rintro e w2 ⟨rfl, hB⟩
              have HB2 := Lib.hid (And.intro (HB1.out.1.trans (hB.mono HB1.out.1.size)) (HB1.out.2.beside hB))
              clear hB g0 g1 g2 g3 g4 g5 g6
              have g0 := HB2.out.2.c0
              have g1 := HB2.out.2.c1
              have g2 := HB2.out.2.c2
              have g3 := HB2.out.2.c3
              have g4 := HB2.out.2.c4
              have g5 := HB2.out.2.c5
              have g6 := HB2.out.2.c6
              go_wp2
              go_ret
              exact ⟨by simp [H3.out, H5.out, H0.out, H1.out], HB2.out.1⟩

set_option maxRecDepth 100000 in
set_option maxHeartbeats 8000000 in
theorem rshow_c (a : Ad) (ha : isAd a = true) (w : World) : Calls Tryz.prog 17 #[adv a] w fun e w' => e = .returned (.string ⟨(textA a).toArray⟩) ∧ Below w.heap.size w w' := by
  obtain ⟨k, n, m⟩ := a
  obtain ⟨k0, k6, n0, n9, m0, m9⟩ := isAd.nums ha
  simp only at k0 k6 n0 n9 m0 m9
  have HI := Lib.hid (fun w => digits_c n n0 (by omega) w)
  have HJ := Lib.hid (fun w => digits_c m m0 (by omega) w)
  have hl := itoa_len n n0 (by omega)
  have hl' := itoa_len m m0 (by omega)
  unfold adv
  simp only
  have hB0 := (Below.refl _ w).alloc (Nat.le_refl _) (.cells #[.int .i64 k, .int .i64 n, .int .i64 m] 31)
  have HB := Lib.hid hB0
  obtain ⟨H, hH⟩ : ∃ H : ByteArray, H = ⟨(itoa n).toArray⟩ := ⟨_, rfl⟩
  obtain ⟨J, hJ⟩ : ∃ H : ByteArray, H = ⟨(itoa m).toArray⟩ := ⟨_, rfl⟩
  rw [← hH] at HI
  rw [← hJ] at HJ
  have hs : H.size ≤ 11 := by rw [hH, ba_size]; exact hl
  have hs' : J.size ≤ 11 := by rw [hJ, ba_size]; exact hl'
  have HH := Lib.hid hH
  have HHJ := Lib.hid hJ
  have q1 : (9223372036854775807 < H.size + 1) = False := by simp; omega
  have q2 : (9223372036854775807 < (H.size + 1) + J.size) = False := by simp; omega
  have q3 : (9223372036854775807 < 1 + H.size) = False := by simp; omega
  have q4 : (9223372036854775807 < 1 + H.size + 1) = False := by simp; omega
  clear hB0 ha n0 n9 m0 m9 hl hl' hH hJ
  rcases (by omega : k = 0 ∨ k = 1 ∨ k = 2 ∨ k = 3 ∨ k = 4 ∨ k = 5 ∨ k = 6) with rfl | rfl | rfl | rfl | rfl | rfl | rfl
  · rw [show textA ⟨0, n, m⟩ = [] from rfl]
    clear k0 k6
    go_enter Tryz.func17, Tryz.ntmps17
    go_wp2
    go_ret
    exact ⟨rfl, HB.out⟩
  · rw [show textA ⟨1, n, m⟩ = itoa n from rfl]
    clear k0 k6
    go_enter Tryz.func17, Tryz.ntmps17
    go_wp2_with fail
    refine (HI.out _).mono ?_
    rintro e w1 ⟨rfl, hB⟩
    have HB1 := Lib.hid (HB.out.trans (hB.mono HB.out.size))
    clear hB
    go_wp2
    go_ret
    refine ⟨?_, HB1.out⟩
    rw [← HH.out]; rfl
  · rw [show textA ⟨2, n, m⟩ = [36] from rfl]
    clear k0 k6
    go_enter Tryz.func17, Tryz.ntmps17
    go_wp2
    go_ret
    exact ⟨rfl, HB.out⟩
  · rw [show textA ⟨3, n, m⟩ = itoa n ++ 126 :: itoa m from rfl]
    clear k0 k6
    go_enter Tryz.func17, Tryz.ntmps17
    go_wp2_with fail
    refine wp_region_noPanic ?_
    refine wp_region_held_drew (S := fun w' => (w'.cell? ⟨w.heap.size, 0, none⟩ = some (.int .i64 3) ∧ w'.cell? ⟨w.heap.size, 1, none⟩ = some (.int .i64 n) ∧ w'.cell? ⟨w.heap.size, 2, none⟩ = some (.int .i64 m)) ∧ Below w.heap.size w w') (by kernel_rfl) ?_ (fun hHeld => ?_)
    · (try dsimp only); exact ⟨by simp [go_sem], HB.out.drew⟩
    refine wpAnyH_take (i := 0) (v := ?_) rfl (by kernel_rfl) (by kernel_rfl) (by kernel_rfl) (fun _ _ _ h => h) (Or.inl ⟨by kernel_rfl, ?_⟩) (by assumption) ?_
    rotate_left
    · (intro w hSw; (try dsimp only at hSw); (try obtain ⟨⟨c0, c1, c2⟩, hB⟩ := hSw); go_simp); (try with_reducible rfl)
    try simp only [Act.put, List.getElem_toArray, List.getElem_cons_succ, List.getElem_cons_zero, List.setIfInBounds_toArray, List.set_cons_zero, List.set_cons_succ]
    refine wpAnyH_take (i := 1) (v := ?_) rfl (by kernel_rfl) (by kernel_rfl) (by kernel_rfl) (fun _ _ _ h => h) (Or.inl ⟨by kernel_rfl, ?_⟩) (by assumption) ?_
    rotate_left
    · (intro w hSw; (try dsimp only at hSw); (try obtain ⟨⟨c0, c1, c2⟩, hB⟩ := hSw); go_simp); (try with_reducible rfl)
    try simp only [Act.put, List.getElem_toArray, List.getElem_cons_succ, List.getElem_cons_zero, List.setIfInBounds_toArray, List.set_cons_zero, List.set_cons_succ]
    refine wpAnyH_take (i := 4) (v := ?_) rfl (by kernel_rfl) (by kernel_rfl) (by kernel_rfl) (fun _ _ _ h => h) (Or.inl ⟨by kernel_rfl, ?_⟩) (by assumption) ?_
    rotate_left
    · (intro w hSw; (try dsimp only at hSw); (try obtain ⟨⟨c0, c1, c2⟩, hB⟩ := hSw); go_simp); (try with_reducible rfl)
    try simp only [Act.put, List.getElem_toArray, List.getElem_cons_succ, List.getElem_cons_zero, List.setIfInBounds_toArray, List.set_cons_zero, List.set_cons_succ]
    refine wpAnyH_take (i := 5) (v := ?_) rfl (by kernel_rfl) (by kernel_rfl) (by kernel_rfl) (fun _ _ _ h => h) (Or.inl ⟨by kernel_rfl, ?_⟩) (by assumption) ?_
    rotate_left
    · (intro w hSw; (try dsimp only at hSw); (try obtain ⟨⟨c0, c1, c2⟩, hB⟩ := hSw); go_simp); (try with_reducible rfl)
    try simp only [Act.put, List.getElem_toArray, List.getElem_cons_succ, List.getElem_cons_zero, List.setIfInBounds_toArray, List.set_cons_zero, List.set_cons_succ]
    refine wpAnyH_ready (rs := [2]) (by kernel_rfl) (by simp) ?_
    refine AllReadyH.cons rfl (fun K hK => ?_) ?_
    rotate_left
    · exact AllReadyH.nil
    go_simp
    have hHn := hHeld
    obtain ⟨⟨c0, c1, c2⟩, hB⟩ := hHn
    refine (HI.out _).mono ?_
    rintro e wN ⟨rfl, hBN⟩
    clear c0 c1 c2 hB
    refine hK.out _ _ ?_ (fun hHeld => ?_)
    · (try dsimp only); obtain ⟨⟨c0, c1, c2⟩, hB⟩ := hHeld; exact ⟨⟨cell_keep hBN c0, cell_keep hBN c1, cell_keep hBN c2⟩, hB.trans (hBN.mono hB.size)⟩
    clear hK K
    try simp only [Act.put, List.getElem_toArray, List.getElem_cons_succ, List.getElem_cons_zero, List.setIfInBounds_toArray, List.set_cons_zero, List.set_cons_succ]
    refine wpAnyH_take (i := 3) (v := ?_) rfl (by kernel_rfl) (by kernel_rfl) (by kernel_rfl) (fun _ _ _ h => h) (Or.inl ⟨by kernel_rfl, ?_⟩) (by assumption) ?_
    rotate_left
    · (intro w hSw; (try dsimp only at hSw); (try obtain ⟨⟨c0, c1, c2⟩, hB⟩ := hSw); go_simp); (try with_reducible rfl)
    try simp only [Act.put, List.getElem_toArray, List.getElem_cons_succ, List.getElem_cons_zero, List.setIfInBounds_toArray, List.set_cons_zero, List.set_cons_succ]
    refine wpAnyH_ready (rs := [6]) (by kernel_rfl) (by simp) ?_
    refine AllReadyH.cons rfl (fun K hK => ?_) ?_
    rotate_left
    · exact AllReadyH.nil
    go_simp
    have hHn := hHeld
    obtain ⟨⟨c0, c1, c2⟩, hB⟩ := hHn
    refine (HJ.out _).mono ?_
    rintro e wN ⟨rfl, hBN⟩
    clear c0 c1 c2 hB
    refine hK.out _ _ ?_ (fun hHeld => ?_)
    · (try dsimp only); obtain ⟨⟨c0, c1, c2⟩, hB⟩ := hHeld; exact ⟨⟨cell_keep hBN c0, cell_keep hBN c1, cell_keep hBN c2⟩, hB.trans (hBN.mono hB.size)⟩
    clear hK K
    try simp only [Act.put, List.getElem_toArray, List.getElem_cons_succ, List.getElem_cons_zero, List.setIfInBounds_toArray, List.set_cons_zero, List.set_cons_succ]
    refine wpAnyH_take (i := 7) (v := ?_) rfl (by kernel_rfl) (by kernel_rfl) (by kernel_rfl) (fun _ _ _ h => h) (Or.inl ⟨by kernel_rfl, ?_⟩) (by assumption) ?_
    rotate_left
    · (intro w hSw; (try dsimp only at hSw); (try obtain ⟨⟨c0, c1, c2⟩, hB⟩ := hSw); go_simp); (try with_reducible rfl)
    try simp only [Act.put, List.getElem_toArray, List.getElem_cons_succ, List.getElem_cons_zero, List.setIfInBounds_toArray, List.set_cons_zero, List.set_cons_succ]
    refine wpAnyH_take (i := 8) (v := ?_) rfl (by kernel_rfl) (by kernel_rfl) (by kernel_rfl) (fun _ _ _ h => h) (Or.inl ⟨by kernel_rfl, ?_⟩) (by assumption) ?_
    rotate_left
    · (intro w hSw; (try dsimp only at hSw); (try obtain ⟨⟨c0, c1, c2⟩, hB⟩ := hSw); go_simp); (try with_reducible rfl)
    try simp only [Act.put, List.getElem_toArray, List.getElem_cons_succ, List.getElem_cons_zero, List.setIfInBounds_toArray, List.set_cons_zero, List.set_cons_succ]
    refine wpAnyH_done (by kernel_rfl) ?_ _
    refine NoPanic.normal ?_
    go_wp2
    go_ret
    refine ⟨?_, hHeld.2⟩
    have e1 : (⟨(itoa n ++ 126 :: itoa m).toArray⟩ : ByteArray) = H ++ ⟨#[126]⟩ ++ J := by
      rw [HH.out, HHJ.out, show (⟨#[126]⟩ : ByteArray) = ⟨[126].toArray⟩ from rfl, ba_app, ba_app]; simp
    rw [e1]; rfl
  · rw [show textA ⟨4, n, m⟩ = 47 :: (itoa n ++ [47]) from rfl]
    clear k0 k6
    go_enter Tryz.func17, Tryz.ntmps17
    go_wp2_with fail
    refine (HI.out _).mono ?_
    rintro e w1 ⟨rfl, hB⟩
    have HB1 := Lib.hid (HB.out.trans (hB.mono HB.out.size))
    clear hB
    go_wp2
    go_ret
    refine ⟨?_, HB1.out⟩
    have e1 : (⟨(47 :: (itoa n ++ [47])).toArray⟩ : ByteArray) = ⟨#[47]⟩ ++ H ++ ⟨#[47]⟩ := by
      rw [HH.out, show (⟨#[47]⟩ : ByteArray) = ⟨[47].toArray⟩ from rfl, ba_app, ba_app]; simp
    rw [e1]; rfl
  · rw [show textA ⟨5, n, m⟩ = 43 :: itoa n from rfl]
    clear k0 k6
    go_enter Tryz.func17, Tryz.ntmps17
    go_wp2_with fail
    refine (HI.out _).mono ?_
    rintro e w1 ⟨rfl, hB⟩
    have HB1 := Lib.hid (HB.out.trans (hB.mono HB.out.size))
    clear hB
    go_wp2
    go_ret
    refine ⟨?_, HB1.out⟩
    have e1 : (⟨(43 :: itoa n).toArray⟩ : ByteArray) = ⟨#[43]⟩ ++ H := by
      rw [HH.out, show (⟨#[43]⟩ : ByteArray) = ⟨[43].toArray⟩ from rfl, ba_app]; simp
    rw [e1]; rfl
  · rw [show textA ⟨6, n, m⟩ = 126 :: itoa n from rfl]
    clear k0 k6
    go_enter Tryz.func17, Tryz.ntmps17
    go_wp2_with fail
    refine (HI.out _).mono ?_
    rintro e w1 ⟨rfl, hB⟩
    have HB1 := Lib.hid (HB.out.trans (hB.mono HB.out.size))
    clear hB
    go_wp2
    go_ret
    refine ⟨?_, HB1.out⟩
    have e1 : (⟨(126 :: itoa n).toArray⟩ : ByteArray) = ⟨#[126]⟩ ++ H := by
      rw [HH.out, show (⟨#[126]⟩ : ByteArray) = ⟨[126].toArray⟩ from rfl, ba_app]; simp
    rw [e1]; rfl

set_option maxRecDepth 100000 in
set_option maxHeartbeats 8000000 in
theorem rprint_c (r : Rg) (w : World) : Calls Tryz.prog 7 #[rgv r] w fun e w' => e = .returned (priV r) ∧ Below w.heap.size w w' := by
  unfold priV
  have HM0 := fun w => rmay_c r w
  cases hm : mayR r
  · rw [hm] at HM0
    obtain ⟨⟨ak, an, am⟩, ⟨bk, bn, bm⟩, nt⟩ := r
    unfold rgv at HM0 ⊢
    simp only [Bool.false_eq_true, if_false] at HM0 ⊢
    have HM := Lib.hid HM0
    have HB := Lib.hid ((Below.refl _ w).alloc (Nat.le_refl _) (.cells #[.int .i64 ak, .int .i64 an, .int .i64 am, .int .i64 bk, .int .i64 bn, .int .i64 bm, .bool nt] 33))
    clear HM0 hm
    go_enter Tryz.func7, Tryz.ntmps7
    go_wp2_with fail
    refine (HM.out _).mono ?_
    rintro e w1 ⟨rfl, hB⟩
    have HB1 := Lib.hid (HB.out.trans (hB.mono HB.out.size))
    clear hB
    go_wp2
    go_ret2
    exact ⟨rfl, HB1.out⟩
  · rw [hm] at HM0
    obtain ⟨ha, hb, _⟩ := mayR_iff.1 hm
    obtain ⟨⟨ak, an, am⟩, ⟨bk, bn, bm⟩, nt⟩ := r
    simp only at ha hb
    have HT0 := fun w => rshow_c ⟨ak, an, am⟩ ha w
    have HU0 := fun w => rshow_c ⟨bk, bn, bm⟩ hb w
    have hl := textA_len ha
    have hl' := textA_len hb
    have eR : textR ⟨⟨ak, an, am⟩, ⟨bk, bn, bm⟩, nt⟩ = textA ⟨ak, an, am⟩ ++ ((if bk = 0 then [] else 44 :: textA ⟨bk, bn, bm⟩) ++ if nt then [33] else []) := rfl
    rw [eR]
    clear eR ha hb
    generalize textA ⟨ak, an, am⟩ = ta at HT0 hl ⊢
    generalize textA ⟨bk, bn, bm⟩ = tb at HU0 hl' ⊢
    unfold rgv at HM0 ⊢
    unfold adv at HT0 HU0
    simp only [if_true] at HM0 HT0 HU0 ⊢
    have HM := Lib.hid HM0
    have hB0 := (Below.refl _ w).alloc (Nat.le_refl _) (.cells #[.int .i64 ak, .int .i64 an, .int .i64 am, .int .i64 bk, .int .i64 bn, .int .i64 bm, .bool nt] 33)
    have HB := Lib.hid (And.intro hB0 (Seven.new w 33 (.int .i64 ak) (.int .i64 an) (.int .i64 am) (.int .i64 bk) (.int .i64 bn) (.int .i64 bm) (.bool nt)))
    obtain ⟨H, hH⟩ : ∃ H : ByteArray, H = ⟨ta.toArray⟩ := ⟨_, rfl⟩
    obtain ⟨J, hJ⟩ : ∃ H : ByteArray, H = ⟨tb.toArray⟩ := ⟨_, rfl⟩
    rw [← hH] at HT0
    rw [← hJ] at HU0
    have hs : H.size ≤ 24 := by rw [hH, ba_size]; exact hl
    have hs' : J.size ≤ 24 := by rw [hJ, ba_size]; exact hl'
    have HT := Lib.hid HT0
    have HU := Lib.hid HU0
    have HH := Lib.hid hH
    have HHJ := Lib.hid hJ
    have q1 : (9223372036854775807 < H.size + 1) = False := by simp; omega
    have q2 : (9223372036854775807 < H.size + 1 + J.size) = False := by simp; omega
    have q4 : (9223372036854775807 < H.size + 1 + J.size + 1) = False := by simp; omega
    clear HM0 hm HT0 HU0 hl hl' hB0 hH hJ
    by_cases h0 : bk = 0
    · subst h0
      rw [if_pos rfl]
      cases nt
      · go_enter Tryz.func7, Tryz.ntmps7
        go_wp2_with fail
        refine (HM.out _).mono ?_
        rintro e w1 ⟨rfl, hB⟩
        have HB1 := Lib.hid (And.intro (HB.out.1.trans (hB.mono HB.out.1.size)) (HB.out.2.beside hB))
        clear hB
        have g0 := HB1.out.2.c0
        have g1 := HB1.out.2.c1
        have g2 := HB1.out.2.c2
        have g3 := HB1.out.2.c3
        have g4 := HB1.out.2.c4
        have g5 := HB1.out.2.c5
        have g6 := HB1.out.2.c6
        go_wp2_with fail
        refine (HT.out _).mono ?_
        rintro e w2 ⟨rfl, hB⟩
        have HB2 := Lib.hid (And.intro (HB1.out.1.trans (hB.mono HB1.out.1.size)) (HB1.out.2.beside hB))
        clear hB g0 g1 g2 g3 g4 g5 g6
        have g0 := HB2.out.2.c0
        have g1 := HB2.out.2.c1
        have g2 := HB2.out.2.c2
        have g3 := HB2.out.2.c3
        have g4 := HB2.out.2.c4
        have g5 := HB2.out.2.c5
        have g6 := HB2.out.2.c6
        go_wp2
        go_ret2
        refine ⟨?_, HB2.out.1⟩
        show Ending.returned (.tuple #[.string (H), .int .i64 0]) = _
        rw [HH.out]
        try (first | rfl | simp)
      · go_enter Tryz.func7, Tryz.ntmps7
        go_wp2_with fail
        refine (HM.out _).mono ?_
        rintro e w1 ⟨rfl, hB⟩
        have HB1 := Lib.hid (And.intro (HB.out.1.trans (hB.mono HB.out.1.size)) (HB.out.2.beside hB))
        clear hB
        have g0 := HB1.out.2.c0
        have g1 := HB1.out.2.c1
        have g2 := HB1.out.2.c2
        have g3 := HB1.out.2.c3
        have g4 := HB1.out.2.c4
        have g5 := HB1.out.2.c5
        have g6 := HB1.out.2.c6
        go_wp2_with fail
        refine (HT.out _).mono ?_
        rintro e w2 ⟨rfl, hB⟩
        have HB2 := Lib.hid (And.intro (HB1.out.1.trans (hB.mono HB1.out.1.size)) (HB1.out.2.beside hB))
        clear hB g0 g1 g2 g3 g4 g5 g6
        have g0 := HB2.out.2.c0
        have g1 := HB2.out.2.c1
        have g2 := HB2.out.2.c2
        have g3 := HB2.out.2.c3
        have g4 := HB2.out.2.c4
        have g5 := HB2.out.2.c5
        have g6 := HB2.out.2.c6
        go_wp2
        go_ret2
        refine ⟨?_, HB2.out.1⟩
        show Ending.returned (.tuple #[.string (H ++ ⟨#[33]⟩), .int .i64 0]) = _
        rw [HH.out, show (⟨#[33]⟩ : ByteArray) = ⟨[33].toArray⟩ from rfl, ba_app]
        try (first | rfl | simp)
    · rw [if_neg h0]
      have t0 : (bk == 0) = false := by simpa using h0
      clear h0
      cases nt
      · go_enter Tryz.func7, Tryz.ntmps7
        go_wp2_with fail
        refine (HM.out _).mono ?_
        rintro e w1 ⟨rfl, hB⟩
        have HB1 := Lib.hid (And.intro (HB.out.1.trans (hB.mono HB.out.1.size)) (HB.out.2.beside hB))
        clear hB
        have g0 := HB1.out.2.c0
        have g1 := HB1.out.2.c1
        have g2 := HB1.out.2.c2
        have g3 := HB1.out.2.c3
        have g4 := HB1.out.2.c4
        have g5 := HB1.out.2.c5
        have g6 := HB1.out.2.c6
        go_wp2_with fail
        refine (HT.out _).mono ?_
        rintro e w2 ⟨rfl, hB⟩
        have HB2 := Lib.hid (And.intro (HB1.out.1.trans (hB.mono HB1.out.1.size)) (HB1.out.2.beside hB))
        clear hB g0 g1 g2 g3 g4 g5 g6
        have g0 := HB2.out.2.c0
        have g1 := HB2.out.2.c1
        have g2 := HB2.out.2.c2
        have g3 := HB2.out.2.c3
        have g4 := HB2.out.2.c4
        have g5 := HB2.out.2.c5
        have g6 := HB2.out.2.c6
        go_wp2_with fail
        refine (HU.out _).mono ?_
        rintro e w3 ⟨rfl, hB⟩
        have HB3 := Lib.hid (And.intro (HB2.out.1.trans (hB.mono HB2.out.1.size)) (HB2.out.2.beside hB))
        clear hB g0 g1 g2 g3 g4 g5 g6
        have g0 := HB3.out.2.c0
        have g1 := HB3.out.2.c1
        have g2 := HB3.out.2.c2
        have g3 := HB3.out.2.c3
        have g4 := HB3.out.2.c4
        have g5 := HB3.out.2.c5
        have g6 := HB3.out.2.c6
        go_wp2
        go_ret2
        refine ⟨?_, HB3.out.1⟩
        show Ending.returned (.tuple #[.string (H ++ ⟨#[44]⟩ ++ J), .int .i64 0]) = _
        rw [HH.out, HHJ.out, show (⟨#[44]⟩ : ByteArray) = ⟨[44].toArray⟩ from rfl, ba_app, ba_app]
        try (first | rfl | simp)
      · go_enter Tryz.func7, Tryz.ntmps7
        go_wp2_with fail
        refine (HM.out _).mono ?_
        rintro e w1 ⟨rfl, hB⟩
        have HB1 := Lib.hid (And.intro (HB.out.1.trans (hB.mono HB.out.1.size)) (HB.out.2.beside hB))
        clear hB
        have g0 := HB1.out.2.c0
        have g1 := HB1.out.2.c1
        have g2 := HB1.out.2.c2
        have g3 := HB1.out.2.c3
        have g4 := HB1.out.2.c4
        have g5 := HB1.out.2.c5
        have g6 := HB1.out.2.c6
        go_wp2_with fail
        refine (HT.out _).mono ?_
        rintro e w2 ⟨rfl, hB⟩
        have HB2 := Lib.hid (And.intro (HB1.out.1.trans (hB.mono HB1.out.1.size)) (HB1.out.2.beside hB))
        clear hB g0 g1 g2 g3 g4 g5 g6
        have g0 := HB2.out.2.c0
        have g1 := HB2.out.2.c1
        have g2 := HB2.out.2.c2
        have g3 := HB2.out.2.c3
        have g4 := HB2.out.2.c4
        have g5 := HB2.out.2.c5
        have g6 := HB2.out.2.c6
        go_wp2_with fail
        refine (HU.out _).mono ?_
        rintro e w3 ⟨rfl, hB⟩
        have HB3 := Lib.hid (And.intro (HB2.out.1.trans (hB.mono HB2.out.1.size)) (HB2.out.2.beside hB))
        clear hB g0 g1 g2 g3 g4 g5 g6
        have g0 := HB3.out.2.c0
        have g1 := HB3.out.2.c1
        have g2 := HB3.out.2.c2
        have g3 := HB3.out.2.c3
        have g4 := HB3.out.2.c4
        have g5 := HB3.out.2.c5
        have g6 := HB3.out.2.c6
        go_wp2
        go_ret2
        refine ⟨?_, HB3.out.1⟩
        show Ending.returned (.tuple #[.string (H ++ ⟨#[44]⟩ ++ J ++ ⟨#[33]⟩), .int .i64 0]) = _
        rw [HH.out, HHJ.out, show (⟨#[44]⟩ : ByteArray) = ⟨[44].toArray⟩ from rfl, show (⟨#[33]⟩ : ByteArray) = ⟨[33].toArray⟩ from rfl, ba_app, ba_app, ba_app]
        try (first | rfl | simp)

end Go.Proofs.YtaamhjjdhebjfaaGreatDoor
