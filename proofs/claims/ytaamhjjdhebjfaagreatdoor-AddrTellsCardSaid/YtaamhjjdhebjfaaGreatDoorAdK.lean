/- May of a range; the text of an address; Print. -/
import Derived.Test.YtaamhjjdhebjfaaGreatDoorAdJ
namespace Go.Proofs.YtaamhjjdhebjfaaGreatDoor
open Go.RowKit Go.Lib
set_option linter.unusedVariables false
set_option linter.unusedSimpArgs false

set_option maxRecDepth 100000 in
set_option maxHeartbeats 8000000 in
theorem may_c (r : Rg) (w : World) : Calls Tryz.prog 11 #[rgv r] w fun e w' => e = .returned (.bool (mayR r)) ∧ Below w.heap.size w w' := by
  obtain ⟨⟨ak, an, am⟩, ⟨bk, bn, bm⟩, nt⟩ := r
  have hB0 := (Below.refl _ w).alloc (Nat.le_refl _) (.cells #[.int .i64 ak, .int .i64 an, .int .i64 am, .int .i64 bk, .int .i64 bn, .int .i64 bm, .bool nt] 25)
  have HB := Lib.hid (And.intro hB0 (Seven.new w 25 (.int .i64 ak) (.int .i64 an) (.int .i64 am) (.int .i64 bk) (.int .i64 bn) (.int .i64 bm) (.bool nt)))
  have HX0 := fun w => isaddr_c ⟨ak, an, am⟩ w
  have HY0 := fun w => isaddr_c ⟨bk, bn, bm⟩ w
  have HI0 := fun w => isahead_c ⟨ak, an, am⟩ w
  have e1 : decide (Ad.k ⟨ak, an, am⟩ = 1 ∧ Ad.n ⟨ak, an, am⟩ = 0) = decide (ak = 1 ∧ an = 0) := rfl
  rw [e1] at HI0
  have hn : isAd ⟨ak, an, am⟩ = true → ak ≤ 6 := fun h => (isAd.nums h).k6
  have e0 : mayR ⟨⟨ak, an, am⟩, ⟨bk, bn, bm⟩, nt⟩ = (isAd ⟨ak, an, am⟩ && isAd ⟨bk, bn, bm⟩ && !decide (bk = 3) && !decide (5 ≤ ak) && (!decide (ak = 0) || decide (bk = 0)) && (!decide (ak = 1 ∧ an = 0) || decide (bk = 4))) := rfl
  rw [e0]
  clear e0 e1 hB0
  have hZ : ak = 0 → decide (ak = 1 ∧ an = 0) = false := by rintro rfl; simp
  generalize decide (ak = 1 ∧ an = 0) = Z at HI0 hZ ⊢
  generalize isAd ⟨ak, an, am⟩ = X at HX0 hn ⊢
  generalize isAd ⟨bk, bn, bm⟩ = Y at HY0 ⊢
  unfold adv at HX0 HY0 HI0
  unfold rgv
  simp only at HX0 HY0 HI0
  have HX := Lib.hid HX0
  have HY := Lib.hid HY0
  have HI := Lib.hid HI0
  clear HX0 HY0 HI0
  have CY : ∀ w1, Below (w.alloc (.cells #[.int .i64 ak, .int .i64 an, .int .i64 am, .int .i64 bk, .int .i64 bn, .int .i64 bm, .bool nt] 25)).heap.size (w.alloc (.cells #[.int .i64 ak, .int .i64 an, .int .i64 am, .int .i64 bk, .int .i64 bn, .int .i64 bm, .bool nt] 25)) w1 → Below w.heap.size w w1 ∧ Seven w1 w.heap.size 25 (.int .i64 ak) (.int .i64 an) (.int .i64 am) (.int .i64 bk) (.int .i64 bn) (.int .i64 bm) (.bool nt) :=
    fun w1 h => ⟨HB.out.1.trans (h.mono HB.out.1.size), HB.out.2.beside h⟩
  have CC := Lib.hid CY
  clear CY
  cases X
  · simp only [Bool.false_and]
    go_enter Tryz.func11, Tryz.ntmps11
    go_wp2_with fail
    refine (HX.out _).mono ?_
    rintro e w1 ⟨rfl, hB⟩
    have HB1 := Lib.hid (CC.out _ hB)
    clear hB
    go_wp2
    go_ret
    exact ⟨rfl, HB1.out.1⟩
  · have ha6 := hn rfl
    simp only [Bool.true_and]
    clear hn
    go_enter Tryz.func11, Tryz.ntmps11
    go_wp2_with fail
    refine (HX.out _).mono ?_
    rintro e w1 ⟨rfl, hB⟩
    have HB1 := Lib.hid (CC.out _ hB)
    clear hB
    have g0 := HB1.out.2.c0
    have g1 := HB1.out.2.c1
    have g2 := HB1.out.2.c2
    have g3 := HB1.out.2.c3
    have g4 := HB1.out.2.c4
    have g5 := HB1.out.2.c5
    have g6 := HB1.out.2.c6
    go_wp2_with fail
    refine (HY.out _).mono ?_
    rintro e w2 ⟨rfl, hB⟩
    have HB2 := Lib.hid (And.intro (HB1.out.1.trans (hB.mono HB1.out.1.size)) (HB1.out.2.beside hB))
    clear hB g0 g1 g2 g3 g4 g5 g6
    have g0 := HB2.out.2.c0
    have g1 := HB2.out.2.c1
    have g2 := HB2.out.2.c2
    have g3 := HB2.out.2.c3
    have g4 := HB2.out.2.c4
    have g5 := HB2.out.2.c5
    have g6 := HB2.out.2.c6
    cases Y
    · simp only [Bool.false_and]
      go_wp2
      go_ret
      exact ⟨rfl, HB2.out.1⟩
    · simp only [Bool.true_and]
      by_cases h3 : bk = 3
      · subst h3
        go_wp2
        go_ret
        exact ⟨by simp, HB2.out.1⟩
      · have t3 : (bk == 3) = false := by simpa using h3
        by_cases h5 : ak = 5
        · subst h5
          go_wp2
          go_ret
          exact ⟨by simp, HB2.out.1⟩
        · have t5 : (ak == 5) = false := by simpa using h5
          by_cases h6 : ak = 6
          · subst h6
            go_wp2
            go_ret
            exact ⟨by simp, HB2.out.1⟩
          · have t6 : (ak == 6) = false := by simpa using h6
            have q5 : ¬ 5 ≤ ak := by omega
            have Q5 := Lib.hid q5
            have H3 := Lib.hid h3
            clear q5 h3 h5 h6
            by_cases h0 : ak = 0
            · obtain rfl := hZ h0
              subst h0
              clear hZ
              go_wp2
              go_ret
              exact ⟨by simp [Q5.out, H3.out]; try rfl, HB2.out.1⟩
            · have t0 : (ak == 0) = false := by simpa using h0
              have H0 := Lib.hid h0
              clear h0 hZ
              go_wp2_with fail
              refine (HI.out _).mono ?_
              rintro e w3 ⟨rfl, hB⟩
              have HB3 := Lib.hid (And.intro (HB2.out.1.trans (hB.mono HB2.out.1.size)) (HB2.out.2.beside hB))
              clear hB g0 g1 g2 g3 g4 g5 g6
              have g3 := HB3.out.2.c3
              by_cases h4 : bk = 4
              · subst h4
                cases Z
                · go_wp2
                  go_ret
                  exact ⟨by simp [Q5.out, H3.out, H0.out], HB3.out.1⟩
                · go_wp2
                  go_ret
                  exact ⟨by simp [Q5.out, H3.out, H0.out], HB3.out.1⟩
              · have t4 : (bk == 4) = false := by simpa using h4
                have H4 := Lib.hid h4
                clear h4
                cases Z
                · go_wp2
                  go_ret
                  exact ⟨by simp [Q5.out, H3.out, H0.out, H4.out], HB3.out.1⟩
                · go_wp2
                  go_ret
                  exact ⟨by simp [Q5.out, H3.out, H0.out, H4.out], HB3.out.1⟩

end Go.Proofs.YtaamhjjdhebjfaaGreatDoor
