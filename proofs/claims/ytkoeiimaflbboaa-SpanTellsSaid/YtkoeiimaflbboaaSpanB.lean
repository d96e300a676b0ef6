/- The contracts of the span functions, and of the document's own answers: which numbers a span has. -/
import Derived.Test.YtkoeiimaflbboaaSpanA
namespace Go.Proofs.Ytkoeiimaflbboaa
open Go.RowKit Go.Proofs.Ytkoeiimaflbboaa.Fl
set_option linter.unusedVariables false

theorem may_no (x y : Nat) (w : World) (h : sp x y = none) : Calls Try.prog 10 #[.complex .f64 x y] w fun e w' => e = .returned (.bool false) ∧ w = w' := by
  by_cases g0 : geB x 0 = true
  · by_cases g1 : leB x y = true
    · by_cases g2 : leB y MAXB = true
      · obtain ⟨u, v, hu, hv, b0, b1, b2⟩ := un_pair g0 g1 g2
        have q0 : (FloatKind.f64.format.order x 0 == some .gt || FloatKind.f64.format.order x 0 == some .eq) = true := g0
        have q1 : (FloatKind.f64.format.order x y == some .lt || FloatKind.f64.format.order x y == some .eq) = true := g1
        have q2 : (FloatKind.f64.format.order y 4741671816358002688 == some .lt || FloatKind.f64.format.order y 4741671816358002688 == some .eq) = true := g2
        have bu : u ≤ 999999999 * unit := Int.le_trans b1 b2
        have bv : 0 ≤ v := Int.le_trans b0 b1
        by_cases zu : u % unit = 0
        · have zv : v % unit ≠ 0 := by
            intro zv
            rw [sp_yes hu hv b0 b1 b2 zu zv] at h; cases h
          have C1 := fun w => isWhole_yes x u w hu b0 bu zu
          have C2 := fun w => isWhole_no y v w hv bv b2 zv
          clear hu hv b0 b1 b2 bu bv zu zv g0 g1 g2 h
          have H1 := Lib.hid C1; clear C1
          have H2 := Lib.hid C2; clear C2
          go_enter Try.func10, Try.ntmps10
          go_wp2_with fail
          refine (H1.out _).mono ?_; rintro e w' ⟨rfl, rfl⟩
          go_wp2_with fail
          refine (H2.out _).mono ?_; rintro e w' ⟨rfl, rfl⟩
          go_wp2
          go_ret
          exact ⟨rfl, rfl⟩
        · have C1 := fun w => isWhole_no x u w hu b0 bu zu
          clear hu hv b0 b1 b2 bu bv zu g0 g1 g2 h
          have H1 := Lib.hid C1; clear C1
          go_enter Try.func10, Try.ntmps10
          go_wp2_with fail
          refine (H1.out _).mono ?_; rintro e w' ⟨rfl, rfl⟩
          go_wp2
          go_ret
          exact ⟨rfl, rfl⟩
      · have q0 : (FloatKind.f64.format.order x 0 == some .gt || FloatKind.f64.format.order x 0 == some .eq) = true := g0
        have q1 : (FloatKind.f64.format.order x y == some .lt || FloatKind.f64.format.order x y == some .eq) = true := g1
        have q2 : (FloatKind.f64.format.order y 4741671816358002688 == some .lt || FloatKind.f64.format.order y 4741671816358002688 == some .eq) = false := Bool.eq_false_iff.2 g2
        clear g0 g1 g2 h
        go_enter Try.func10, Try.ntmps10
        go_wp2
        go_ret
        exact ⟨rfl, rfl⟩
    · have q0 : (FloatKind.f64.format.order x 0 == some .gt || FloatKind.f64.format.order x 0 == some .eq) = true := g0
      have q1 : (FloatKind.f64.format.order x y == some .lt || FloatKind.f64.format.order x y == some .eq) = false := Bool.eq_false_iff.2 g1
      clear g0 g1 h
      go_enter Try.func10, Try.ntmps10
      go_wp2
      go_ret
      exact ⟨rfl, rfl⟩
  · have q0 : (FloatKind.f64.format.order x 0 == some .gt || FloatKind.f64.format.order x 0 == some .eq) = false := Bool.eq_false_iff.2 g0
    clear g0 h
    go_enter Try.func10, Try.ntmps10
    go_wp2
    go_ret
    exact ⟨rfl, rfl⟩

theorem may_yes (x y : Nat) (m n : Int) (w : World) (h : sp x y = some (m, n)) : Calls Try.prog 10 #[.complex .f64 x y] w fun e w' => e = .returned (.bool true) ∧ w = w' := by
  obtain ⟨hx, hy, h0, h1, h2⟩ := sp_some h
  have g0 : geB x 0 = true := by rw [geB_val hx val_zero]; simpa using h0
  have g1 : leB x y = true := by rw [leB_val hx hy]; simpa using h1
  have g2 : leB y MAXB = true := by rw [leB_val hy val_max]; simpa using h2
  have zu : (m * unit) % (unit : Int) = 0 := Int.mul_emod_left ..
  have zv : (n * unit) % (unit : Int) = 0 := Int.mul_emod_left ..
  have p := Int.le_of_lt unit_posI
  have C1 := fun w => isWhole_yes x _ w (val_some hx) (Int.mul_nonneg h0 p) (Int.mul_le_mul_of_nonneg_right (Int.le_trans h1 h2) p) zu
  have C2 := fun w => isWhole_yes y _ w (val_some hy) (Int.mul_nonneg (Int.le_trans h0 h1) p) (Int.mul_le_mul_of_nonneg_right h2 p) zv
  have q0 : (FloatKind.f64.format.order x 0 == some .gt || FloatKind.f64.format.order x 0 == some .eq) = true := g0
  have q1 : (FloatKind.f64.format.order x y == some .lt || FloatKind.f64.format.order x y == some .eq) = true := g1
  have q2 : (FloatKind.f64.format.order y 4741671816358002688 == some .lt || FloatKind.f64.format.order y 4741671816358002688 == some .eq) = true := g2
  clear hx hy h0 h1 h2 zu zv p g0 g1 g2 h
  have H1 := Lib.hid C1; clear C1
  have H2 := Lib.hid C2; clear C2
  go_enter Try.func10, Try.ntmps10
  go_wp2_with fail
  refine (H1.out _).mono ?_; rintro e w' ⟨rfl, rfl⟩
  go_wp2_with fail
  refine (H2.out _).mono ?_; rintro e w' ⟨rfl, rfl⟩
  go_wp2
  go_ret
  exact ⟨rfl, rfl⟩

/-- What the document's own 'whole' says. -/
def whB (x : Nat) : Bool := geB x 0 && (leB x MAXB && (val x).isSome)

theorem whole_ref (x : Nat) (w : World) : Calls Try.prog 33 #[.float .f64 x] w fun e w' => e = .returned (.bool (whB x)) ∧ w = w' := by
  by_cases g0 : geB x 0 = true
  · by_cases g1 : leB x MAXB = true
    · obtain ⟨u, hu, b0, b1⟩ := un_between g0 g1
      have hc : ∀ w, Sem.run Try.prog (convert 22 3 (.float .f64 x)) w = .ok (.int .i64 (u / unit)) w :=
        fun w => run_convert_float_int w 22 3 .f64 .i64 x _ (by kernel_rfl) (by kernel_rfl) (toInt_val hu b0 b1)
      have hlo := Int.ediv_nonneg b0 (Int.le_of_lt unit_posI)
      have hhi := Int.ediv_le_ediv unit_posI b1
      rw [Int.mul_ediv_cancel _ (Int.ne_of_gt unit_posI)] at hhi
      have hy := un_floatOfInt (u / unit) (by have : (2 : Nat) ^ 53 = 9007199254740992 := rfl; omega)
      have ho := cut_order hu hy
      generalize hk : floatOfInt .f64 (u / unit) = y at *
      have q0 : (FloatKind.f64.format.order x 0 == some .gt || FloatKind.f64.format.order x 0 == some .eq) = true := g0
      have q1 : (FloatKind.f64.format.order x 4741671816358002688 == some .lt || FloatKind.f64.format.order x 4741671816358002688 == some .eq) = true := g1
      by_cases z : u % unit = 0
      · have o := ho.1 z
        have hw : whB x = true := by unfold whB; rw [g0, g1]; unfold val; rw [hu]; simp [z]
        have HW := Lib.hid hw
        clear hu b0 b1 hlo hhi hy ho z g0 g1 hw
        go_enter Try.func33, Try.ntmps33
        go_wp2
        go_ret
        rw [HW.out]
        exact ⟨rfl, rfl⟩
      · have o := ho.2 z
        have hw : whB x = false := by unfold whB; rw [g0, g1]; unfold val; rw [hu]; simp [z]
        have HW := Lib.hid hw
        clear hu b0 b1 hlo hhi hy ho z g0 g1 hw
        go_enter Try.func33, Try.ntmps33
        go_wp2
        go_ret
        rw [HW.out]
        exact ⟨rfl, rfl⟩
    · have q0 : (FloatKind.f64.format.order x 0 == some .gt || FloatKind.f64.format.order x 0 == some .eq) = true := g0
      have q1 : (FloatKind.f64.format.order x 4741671816358002688 == some .lt || FloatKind.f64.format.order x 4741671816358002688 == some .eq) = false := Bool.eq_false_iff.2 g1
      have hw : whB x = false := by unfold whB; rw [g0, Bool.eq_false_iff.2 g1]; rfl
      have HW := Lib.hid hw
      clear g0 g1 hw
      go_enter Try.func33, Try.ntmps33
      go_wp2
      go_ret
      rw [HW.out]
      exact ⟨rfl, rfl⟩
  · have q0 : (FloatKind.f64.format.order x 0 == some .gt || FloatKind.f64.format.order x 0 == some .eq) = false := Bool.eq_false_iff.2 g0
    have hw : whB x = false := by unfold whB; rw [Bool.eq_false_iff.2 g0]; rfl
    have HW := Lib.hid hw
    clear g0 hw
    go_enter Try.func33, Try.ntmps33
    go_wp2
    go_ret
    rw [HW.out]
    exact ⟨rfl, rfl⟩

theorem sp_whB (x y : Nat) : (sp x y).isSome = (whB x && (whB y && leB x y)) := by
  cases hs : sp x y with
  | some q =>
    obtain ⟨m, n⟩ := q
    obtain ⟨hx, hy, h0, h1, h2⟩ := sp_some hs
    unfold whB
    rw [geB_val hx val_zero, leB_val hx val_max, geB_val hy val_zero, leB_val hy val_max, leB_val hx hy, hx, hy]
    have a1 : m ≤ 999999999 := by omega
    have a2 : 0 ≤ n := by omega
    simp [h0, h1, h2, a1, a2]
  | none =>
    symm
    show (whB x && (whB y && leB x y)) = false
    rw [Bool.eq_false_iff]
    intro hh
    simp only [Bool.and_eq_true] at hh
    obtain ⟨h1, h2, h3⟩ := hh
    unfold whB at h1 h2
    simp only [Bool.and_eq_true, Option.isSome_iff_exists] at h1 h2
    obtain ⟨a1, a2, m, hx⟩ := h1
    obtain ⟨b1, b2, n, hy⟩ := h2
    rw [geB_val hx val_zero] at a1
    rw [leB_val hy val_max] at b2
    rw [leB_val hx hy] at h3
    rw [sp_of hx hy (by simpa using a1) (by simpa using h3) (by simpa using b2)] at hs
    cases hs

theorem mayr (x y : Nat) (w : World) : Calls Try.prog 11 #[.complex .f64 x y] w fun e w' => e = .returned (.bool (sp x y).isSome) ∧ w = w' := by
  have hs := sp_whB x y
  have C1 := fun w => whole_ref x w
  have C2 := fun w => whole_ref y w
  cases hx : whB x with
  | false =>
    rw [hx] at hs C1
    have HS := Lib.hid hs
    have H1 := Lib.hid C1; clear C1 C2 hs hx
    go_enter Try.func11, Try.ntmps11
    go_wp2_with fail
    refine (H1.out _).mono ?_; rintro e w' ⟨rfl, rfl⟩
    go_wp2
    go_ret
    rw [HS.out]
    exact ⟨rfl, rfl⟩
  | true =>
    cases hy : whB y with
    | false =>
      rw [hx, hy] at hs
      rw [hx] at C1
      rw [hy] at C2
      have HS := Lib.hid hs
      have H1 := Lib.hid C1; have H2 := Lib.hid C2; clear C1 C2 hs hx hy
      go_enter Try.func11, Try.ntmps11
      go_wp2_with fail
      refine (H1.out _).mono ?_; rintro e w' ⟨rfl, rfl⟩
      go_wp2_with fail
      refine (H2.out _).mono ?_; rintro e w' ⟨rfl, rfl⟩
      go_wp2
      go_ret
      rw [HS.out]
      exact ⟨rfl, rfl⟩
    | true =>
      rw [hx, hy] at hs
      rw [hx] at C1
      rw [hy] at C2
      have HS := Lib.hid hs
      have H1 := Lib.hid C1; have H2 := Lib.hid C2; clear C1 C2 hs hx hy
      go_enter Try.func11, Try.ntmps11
      go_wp2_with fail
      refine (H1.out _).mono ?_; rintro e w' ⟨rfl, rfl⟩
      go_wp2_with fail
      refine (H2.out _).mono ?_; rintro e w' ⟨rfl, rfl⟩
      go_wp2
      all_goals (go_ret; rw [HS.out]; first | exact ⟨rfl, rfl⟩ | simp [leB])

end Go.Proofs.Ytkoeiimaflbboaa
