/- The walk of the statement SpanShifts. -/
import Derived.Test.YtkoeiimaflbboaaSpanE
import Derived.OpenShut
namespace Go.Proofs.Ytkoeiimaflbboaa
open Go.RowKit Go.Proofs.Ytkoeiimaflbboaa.Fl
set_option linter.unusedVariables false

theorem shifts_early (a b n : Int) (w : World) (hn0 : -9223372036854775808 ≤ n) (h : a < 0 ∨ b < a ∨ 999999999 < b ∨ 999999999 < n ∨ n < -999999999) :
    Calls Try.prog 8 #[.int .i64 a, .int .i64 b, .int .i64 n] w fun e w' => e = .returned (.bool true) ∧ Grown w w' := by
  have H1 := Lib.hid (fun w => shown_true w)
  by_cases q0 : a < 0
  · clear h
    go_enter Try.func8, Try.ntmps8
    go_wp2_with fail
    refine (H1.out _).mono ?_; rintro e w' ⟨rfl, rfl⟩
    go_wp2
    go_ret
    exact ⟨rfl, Grown.refl _⟩
  · by_cases q1 : b < a
    · clear h
      go_enter Try.func8, Try.ntmps8
      go_wp2_with fail
      refine (H1.out _).mono ?_; rintro e w' ⟨rfl, rfl⟩
      go_wp2
      go_ret
      exact ⟨rfl, Grown.refl _⟩
    · by_cases q2 : 999999999 < b
      · clear h
        go_enter Try.func8, Try.ntmps8
        go_wp2_with fail
        refine (H1.out _).mono ?_; rintro e w' ⟨rfl, rfl⟩
        go_wp2
        go_ret
        exact ⟨rfl, Grown.refl _⟩
      · by_cases q3 : 999999999 < n
        · clear h
          go_enter Try.func8, Try.ntmps8
          go_wp2_with fail
          refine (H1.out _).mono ?_; rintro e w' ⟨rfl, rfl⟩
          go_wp2
          go_ret
          exact ⟨rfl, Grown.refl _⟩
        · have q4 : n < -999999999 := by omega
          clear h
          go_enter Try.func8, Try.ntmps8
          go_wp2_with fail
          refine (H1.out _).mono ?_; rintro e w' ⟨rfl, rfl⟩
          go_wp2
          go_ret
          exact ⟨rfl, Grown.refl _⟩

theorem shifts_walk (a b n : Int) (wa : (Lit.int .i64 a).wf = true) (wb : (Lit.int .i64 b).wf = true) (wn : (Lit.int .i64 n).wf = true) (w : World) :
    Calls Try.prog 8 #[.int .i64 a, .int .i64 b, .int .i64 n] w fun e w' => e = .returned (.bool true) ∧ Grown w w' := by
  have bn := bounds_i64 wn
  by_cases hc : a < 0 ∨ b < a ∨ 999999999 < b ∨ 999999999 < n ∨ n < -999999999
  · exact shifts_early a b n w bn.1 hc
  · clear wa wb wn bn
    have q0 : ¬ a < 0 := by omega
    have q1 : ¬ b < a := by omega
    have q2 : ¬ 999999999 < b := by omega
    have q3 : ¬ 999999999 < n := by omega
    have q4 : ¬ n < -999999999 := by omega
    clear hc
    have hp : (2 : Nat) ^ 53 = 9007199254740992 := rfl
    have va := val_floatOfInt (n := a) (by omega)
    have vb := val_floatOfInt (n := b) (by omega)
    have hs := sp_of va vb (by omega) (by omega) (by omega)
    have H1 := Lib.hid (fun w => of_yes a b w (by omega) (by omega) (by omega))
    have H9 := Lib.hid (fun w => shown_true w)
    clear hp
    by_cases o0 : a + n < 0
    · have H2 := Lib.hid (fun w => shift_outa _ _ _ _ n w hs o0)
      have H3 := Lib.hid (fun w => may_no _ _ w spNone)
      clear va vb hs
      go_enter Try.func8, Try.ntmps8
      go_wp2_with fail
      refine (H1.out _).mono ?_; rintro e w' ⟨rfl, rfl⟩
      go_wp2_with fail
      refine (H2.out _).mono ?_; rintro e w' ⟨rfl, rfl⟩
      go_wp2_with fail
      refine (H3.out _).mono ?_; rintro e w' ⟨rfl, rfl⟩
      go_wp2
      go_ret
      exact ⟨rfl, Grown.refl _⟩
    · by_cases o1 : 999999999 < b + n
      · have H2 := Lib.hid (fun w => shift_outb _ _ _ _ n w hs (by omega) o1)
        have H3 := Lib.hid (fun w => may_no _ _ w spNone)
        clear va vb hs
        go_enter Try.func8, Try.ntmps8
        go_wp2_with fail
        refine (H1.out _).mono ?_; rintro e w' ⟨rfl, rfl⟩
        go_wp2_with fail
        refine (H2.out _).mono ?_; rintro e w' ⟨rfl, rfl⟩
        go_wp2_with fail
        refine (H3.out _).mono ?_; rintro e w' ⟨rfl, rfl⟩
        go_wp2
        go_ret
        exact ⟨rfl, Grown.refl _⟩
      · have H2 := Lib.hid (fun w => shift_yes _ _ _ _ n w hs (by omega) (by omega))
        have H4 := Lib.hid (fun w => len_yes _ _ _ _ w hs)
        have VA := Lib.hid va
        have VB := Lib.hid vb
        have e1 : (b + n - (a + n) == b - a) = true := beq_iff_eq.2 (by omega)
        clear va vb hs
        go_enter Try.func8, Try.ntmps8
        go_wp2_with fail
        refine (H1.out _).mono ?_; rintro e w' ⟨rfl, rfl⟩
        go_wp2_with fail
        refine (H2.out _).mono ?_; rintro e w' ⟨p, q, rfl, vp, vq, rfl⟩
        have ht := sp_of vp vq (by omega) (by omega) (by omega)
        have H5 := Lib.hid (fun w => may_yes _ _ _ _ w ht)
        have H6 := Lib.hid (fun w => shift_yes _ _ _ _ (-n) w ht (by omega) (by omega))
        have H7 := Lib.hid (fun w => len_yes _ _ _ _ w ht)
        have H8 := Lib.hid (fun w => from_yes _ _ _ _ w ht)
        clear ht vp vq
        go_wp2_with fail
        refine (H5.out _).mono ?_; rintro e w' ⟨rfl, rfl⟩
        go_wp2_with fail
        refine (H6.out _).mono ?_; rintro e w' ⟨p', q', rfl, vp, vq, rfl⟩
        have x1 : FloatKind.f64.format.order p' (floatOfInt .f64 a) = some .eq := by
          rw [order_rfl, order_val vp VA.out, show a + n + -n = a from by omega, compare_self]
        have x2 : FloatKind.f64.format.order q' (floatOfInt .f64 b) = some .eq := by
          rw [order_rfl, order_val vq VB.out, show b + n + -n = b from by omega, compare_self]
        clear vp vq
        go_wp2_with fail
        refine (H7.out _).mono ?_; rintro e w' ⟨rfl, rfl⟩
        go_wp2_with fail
        refine (H4.out _).mono ?_; rintro e w' ⟨rfl, rfl⟩
        go_wp2_with fail
        refine (H8.out _).mono ?_; rintro e w' ⟨rfl, rfl⟩
        go_wp2_with fail
        refine (H9.out _).mono ?_; rintro e w' ⟨rfl, rfl⟩
        go_wp2
        go_ret
        exact ⟨rfl, Grown.refl _⟩

end Go.Proofs.Ytkoeiimaflbboaa
