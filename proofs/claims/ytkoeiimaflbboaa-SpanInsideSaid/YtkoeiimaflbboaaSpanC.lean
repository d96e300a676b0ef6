/- The contracts of From, To, Len, Of and same. -/
import Derived.Test.YtkoeiimaflbboaaSpanB
import Derived.Test.YtkoeiimaflbboaaScope
namespace Go.Proofs.Ytkoeiimaflbboaa
open Go.RowKit Go.Proofs.Ytkoeiimaflbboaa.Fl
set_option linter.unusedVariables false

theorem conv_val {x : Nat} {m : Int} (h : val x = some m) (h0 : 0 ≤ m) (h1 : m ≤ 999999999) :
    ∀ w, Sem.run Try.prog (convert 22 3 (.float .f64 x)) w = .ok (.int .i64 m) w := by
  intro w
  have p := Int.le_of_lt unit_posI
  have ht := toInt_val (val_some h) (Int.mul_nonneg h0 p) (Int.mul_le_mul_of_nonneg_right h1 p)
  rw [Int.mul_ediv_cancel _ (Int.ne_of_gt unit_posI)] at ht
  exact run_convert_float_int w 22 3 .f64 .i64 x _ (by kernel_rfl) (by kernel_rfl) ht

theorem from_yes (x y : Nat) (m n : Int) (w : World) (h : sp x y = some (m, n)) : Calls Try.prog 12 #[.complex .f64 x y] w fun e w' => e = .returned (.int .i64 m) ∧ w = w' := by
  obtain ⟨hx, hy, h0, h1, h2⟩ := sp_some h
  have hc := conv_val hx h0 (Int.le_trans h1 h2)
  have C1 := fun w => may_yes x y m n w h
  have H1 := Lib.hid C1; clear C1 hx hy h0 h1 h2 h
  go_enter Try.func12, Try.ntmps12
  go_wp2_with fail
  go_step3
  go_wp2_with fail
  refine (H1.out _).mono ?_; rintro e w' ⟨rfl, rfl⟩
  go_wp2
  rw [Exit.noGoto_ret]
  go_ret
  exact ⟨rfl, rfl⟩

theorem from_no (x y : Nat) (w : World) (h : sp x y = none) : Calls Try.prog 12 #[.complex .f64 x y] w fun e w' => e = .returned (.int .i64 (-1)) ∧ w = w' := by
  have C1 := fun w => may_no x y w h
  have H1 := Lib.hid C1; clear C1 h
  go_enter Try.func12, Try.ntmps12
  go_wp2_with fail
  refine wp_scope_fwd 0 rfl ?_
  go_wp2_with fail
  refine (H1.out _).mono ?_; rintro e w' ⟨rfl, rfl⟩
  go_wp2
  go_step3
  refine ⟨rfl, ?_⟩
  change Code.wp _ _ _ _ _
  go_wp2
  rw [Exit.noGoto_ret]
  go_ret
  exact ⟨rfl, rfl⟩

theorem to_yes (x y : Nat) (m n : Int) (w : World) (h : sp x y = some (m, n)) : Calls Try.prog 14 #[.complex .f64 x y] w fun e w' => e = .returned (.int .i64 n) ∧ w = w' := by
  obtain ⟨hx, hy, h0, h1, h2⟩ := sp_some h
  have hc := conv_val hy (Int.le_trans h0 h1) h2
  have C1 := fun w => may_yes x y m n w h
  have H1 := Lib.hid C1; clear C1 hx hy h0 h1 h2 h
  go_enter Try.func14, Try.ntmps14
  go_wp2_with fail
  go_step3
  go_wp2_with fail
  refine (H1.out _).mono ?_; rintro e w' ⟨rfl, rfl⟩
  go_wp2
  rw [Exit.noGoto_ret]
  go_ret
  exact ⟨rfl, rfl⟩

theorem to_no (x y : Nat) (w : World) (h : sp x y = none) : Calls Try.prog 14 #[.complex .f64 x y] w fun e w' => e = .returned (.int .i64 (-1)) ∧ w = w' := by
  have C1 := fun w => may_no x y w h
  have H1 := Lib.hid C1; clear C1 h
  go_enter Try.func14, Try.ntmps14
  go_wp2_with fail
  refine wp_scope_fwd 0 rfl ?_
  go_wp2_with fail
  refine (H1.out _).mono ?_; rintro e w' ⟨rfl, rfl⟩
  go_wp2
  go_step3
  refine ⟨rfl, ?_⟩
  change Code.wp _ _ _ _ _
  go_wp2
  rw [Exit.noGoto_ret]
  go_ret
  exact ⟨rfl, rfl⟩


theorem fromr_yes (x y : Nat) (m n : Int) (w : World) (h : sp x y = some (m, n)) : Calls Try.prog 13 #[.complex .f64 x y] w fun e w' => e = .returned (.int .i64 m) ∧ w = w' := by
  obtain ⟨hx, hy, h0, h1, h2⟩ := sp_some h
  have hc := conv_val hx h0 (Int.le_trans h1 h2)
  have C1 := fun w => mayr x y w
  rw [h] at C1
  have H1 := Lib.hid C1; clear C1 hx hy h0 h1 h2 h
  go_enter Try.func13, Try.ntmps13
  go_wp2_with fail
  refine (H1.out _).mono ?_; rintro e w' ⟨rfl, rfl⟩
  go_wp2
  go_ret
  exact ⟨rfl, rfl⟩

theorem fromr_no (x y : Nat) (w : World) (h : sp x y = none) : Calls Try.prog 13 #[.complex .f64 x y] w fun e w' => e = .returned (.int .i64 (-1)) ∧ w = w' := by
  have C1 := fun w => mayr x y w
  rw [h] at C1
  have H1 := Lib.hid C1; clear C1 h
  go_enter Try.func13, Try.ntmps13
  go_wp2_with fail
  refine (H1.out _).mono ?_; rintro e w' ⟨rfl, rfl⟩
  go_wp2
  go_ret
  exact ⟨rfl, rfl⟩

theorem tor_yes (x y : Nat) (m n : Int) (w : World) (h : sp x y = some (m, n)) : Calls Try.prog 15 #[.complex .f64 x y] w fun e w' => e = .returned (.int .i64 n) ∧ w = w' := by
  obtain ⟨hx, hy, h0, h1, h2⟩ := sp_some h
  have hc := conv_val hy (Int.le_trans h0 h1) h2
  have C1 := fun w => mayr x y w
  rw [h] at C1
  have H1 := Lib.hid C1; clear C1 hx hy h0 h1 h2 h
  go_enter Try.func15, Try.ntmps15
  go_wp2_with fail
  refine (H1.out _).mono ?_; rintro e w' ⟨rfl, rfl⟩
  go_wp2
  go_ret
  exact ⟨rfl, rfl⟩

theorem tor_no (x y : Nat) (w : World) (h : sp x y = none) : Calls Try.prog 15 #[.complex .f64 x y] w fun e w' => e = .returned (.int .i64 (-1)) ∧ w = w' := by
  have C1 := fun w => mayr x y w
  rw [h] at C1
  have H1 := Lib.hid C1; clear C1 h
  go_enter Try.func15, Try.ntmps15
  go_wp2_with fail
  refine (H1.out _).mono ?_; rintro e w' ⟨rfl, rfl⟩
  go_wp2
  go_ret
  exact ⟨rfl, rfl⟩

theorem len_yes (x y : Nat) (m n : Int) (w : World) (h : sp x y = some (m, n)) : Calls Try.prog 16 #[.complex .f64 x y] w fun e w' => e = .returned (.int .i64 (n - m)) ∧ w = w' := by
  obtain ⟨_, _, h0, h1, h2⟩ := sp_some h
  have H1 := Lib.hid (fun w => to_yes x y m n w h)
  have H2 := Lib.hid (fun w => from_yes x y m n w h)
  clear h
  have b0 : 0 ≤ n := Int.le_trans h0 h1
  have b1 : m ≤ 999999999 := Int.le_trans h1 h2
  go_enter Try.func16, Try.ntmps16
  go_wp2_with fail
  refine (H1.out _).mono ?_; rintro e w' ⟨rfl, rfl⟩
  go_wp2_with fail
  refine (H2.out _).mono ?_; rintro e w' ⟨rfl, rfl⟩
  go_wp2
  go_ret
  exact ⟨rfl, rfl⟩

theorem len_no (x y : Nat) (w : World) (h : sp x y = none) : Calls Try.prog 16 #[.complex .f64 x y] w fun e w' => e = .returned (.int .i64 0) ∧ w = w' := by
  have H1 := Lib.hid (fun w => to_no x y w h)
  have H2 := Lib.hid (fun w => from_no x y w h)
  clear h
  go_enter Try.func16, Try.ntmps16
  go_wp2_with fail
  refine (H1.out _).mono ?_; rintro e w' ⟨rfl, rfl⟩
  go_wp2_with fail
  refine (H2.out _).mono ?_; rintro e w' ⟨rfl, rfl⟩
  go_wp2
  go_ret
  exact ⟨rfl, rfl⟩

theorem lenr_yes (x y : Nat) (m n : Int) (w : World) (h : sp x y = some (m, n)) : Calls Try.prog 17 #[.complex .f64 x y] w fun e w' => e = .returned (.int .i64 (n - m)) ∧ w = w' := by
  obtain ⟨_, _, h0, h1, h2⟩ := sp_some h
  have C0 := fun w => mayr x y w
  rw [h] at C0
  have H0 := Lib.hid C0
  have H1 := Lib.hid (fun w => tor_yes x y m n w h)
  have H2 := Lib.hid (fun w => fromr_yes x y m n w h)
  clear C0 h
  have b0 : 0 ≤ n := Int.le_trans h0 h1
  have b1 : m ≤ 999999999 := Int.le_trans h1 h2
  go_enter Try.func17, Try.ntmps17
  go_wp2_with fail
  refine (H0.out _).mono ?_; rintro e w' ⟨rfl, rfl⟩
  go_wp2_with fail
  refine (H1.out _).mono ?_; rintro e w' ⟨rfl, rfl⟩
  go_wp2_with fail
  refine (H2.out _).mono ?_; rintro e w' ⟨rfl, rfl⟩
  go_wp2
  go_ret
  exact ⟨rfl, rfl⟩

theorem lenr_no (x y : Nat) (w : World) (h : sp x y = none) : Calls Try.prog 17 #[.complex .f64 x y] w fun e w' => e = .returned (.int .i64 0) ∧ w = w' := by
  have C0 := fun w => mayr x y w
  rw [h] at C0
  have H0 := Lib.hid C0
  clear C0 h
  go_enter Try.func17, Try.ntmps17
  go_wp2_with fail
  refine (H0.out _).mono ?_; rintro e w' ⟨rfl, rfl⟩
  go_wp2
  go_ret
  exact ⟨rfl, rfl⟩

theorem of_yes (a b : Int) (w : World) (h0 : 0 ≤ a) (h1 : a ≤ b) (h2 : b ≤ 999999999) :
    Calls Try.prog 24 #[.int .i64 a, .int .i64 b] w fun e w' => e = .returned (.tuple #[.complex .f64 (floatOfInt .f64 a) (floatOfInt .f64 b), .bool true]) ∧ w = w' := by
  have q0 : ¬ a < 0 := by omega
  have q1 : ¬ b < a := by omega
  have q2 : ¬ 999999999 < b := by omega
  go_enter Try.func24, Try.ntmps24
  go_wp2_with fail
  go_step3
  go_wp2
  rw [Exit.noGoto_ret]
  go_ret2
  exact ⟨rfl, rfl⟩

theorem of_no (a b : Int) (w : World) (h : a < 0 ∨ b < a ∨ 999999999 < b) :
    Calls Try.prog 24 #[.int .i64 a, .int .i64 b] w fun e w' => e = .returned (.tuple #[.complex .f64 NEGB NEGB, .bool false]) ∧ w = w' := by
  have H1 := Lib.hid (fun w => none_code w)
  by_cases q0 : a < 0
  · clear h
    go_enter Try.func24, Try.ntmps24
    go_wp2_with fail
    refine wp_scope_fwd 0 rfl ?_
    go_wp2
    go_step3
    refine ⟨rfl, ?_⟩
    change Code.wp _ _ _ _ _
    go_wp2_with fail
    refine (H1.out _).mono ?_; rintro e w' ⟨rfl, rfl⟩
    go_wp2
    rw [Exit.noGoto_ret]
    go_ret2
    exact ⟨rfl, rfl⟩
  · by_cases q1 : b < a
    · clear h
      go_enter Try.func24, Try.ntmps24
      go_wp2_with fail
      refine wp_scope_fwd 0 rfl ?_
      go_wp2
      go_step3
      refine ⟨rfl, ?_⟩
      change Code.wp _ _ _ _ _
      go_wp2_with fail
      refine (H1.out _).mono ?_; rintro e w' ⟨rfl, rfl⟩
      go_wp2
      rw [Exit.noGoto_ret]
      go_ret2
      exact ⟨rfl, rfl⟩
    · have q2 : 999999999 < b := by omega
      clear h
      go_enter Try.func24, Try.ntmps24
      go_wp2_with fail
      refine wp_scope_fwd 0 rfl ?_
      go_wp2
      go_step3
      refine ⟨rfl, ?_⟩
      change Code.wp _ _ _ _ _
      go_wp2_with fail
      refine (H1.out _).mono ?_; rintro e w' ⟨rfl, rfl⟩
      go_wp2
      rw [Exit.noGoto_ret]
      go_ret2
      exact ⟨rfl, rfl⟩

theorem ofr_yes (a b : Int) (w : World) (h0 : 0 ≤ a) (h1 : a ≤ b) (h2 : b ≤ 999999999) :
    Calls Try.prog 25 #[.int .i64 a, .int .i64 b] w fun e w' => e = .returned (.tuple #[.complex .f64 (floatOfInt .f64 a) (floatOfInt .f64 b), .bool true]) ∧ w = w' := by
  have q0 : ¬ a < 0 := by omega
  have q1 : ¬ b < a := by omega
  have q2 : ¬ 999999999 < b := by omega
  go_enter Try.func25, Try.ntmps25
  go_wp2
  go_ret2
  exact ⟨rfl, rfl⟩

theorem ofr_no (a b : Int) (w : World) (h : a < 0 ∨ b < a ∨ 999999999 < b) :
    Calls Try.prog 25 #[.int .i64 a, .int .i64 b] w fun e w' => e = .returned (.tuple #[.complex .f64 NEGB NEGB, .bool false]) ∧ w = w' := by
  have H1 := Lib.hid (fun w => none_ref w)
  by_cases q0 : a < 0
  · clear h
    go_enter Try.func25, Try.ntmps25
    go_wp2_with fail
    refine (H1.out _).mono ?_; rintro e w' ⟨rfl, rfl⟩
    go_wp2
    go_ret2
    exact ⟨rfl, rfl⟩
  · by_cases q1 : b < a
    · clear h
      go_enter Try.func25, Try.ntmps25
      go_wp2_with fail
      refine (H1.out _).mono ?_; rintro e w' ⟨rfl, rfl⟩
      go_wp2
      go_ret2
      exact ⟨rfl, rfl⟩
    · have q2 : 999999999 < b := by omega
      clear h
      go_enter Try.func25, Try.ntmps25
      go_wp2_with fail
      refine (H1.out _).mono ?_; rintro e w' ⟨rfl, rfl⟩
      go_wp2
      go_ret2
      exact ⟨rfl, rfl⟩

theorem same_yes (x y x' y' : Nat) (m n : Int) (w : World) (hx : val x = some m) (hy : val y = some n) (hx' : val x' = some m) (hy' : val y' = some n) :
    Calls Try.prog 18 #[.complex .f64 x y, .complex .f64 x' y'] w fun e w' => e = .returned (.bool true) ∧ w = w' := by
  have o1 : FloatKind.f64.format.order x x' = some .eq := by rw [order_rfl, order_val hx hx']; simp
  have o2 : FloatKind.f64.format.order y y' = some .eq := by rw [order_rfl, order_val hy hy']; simp
  clear hx hy hx' hy'
  go_enter Try.func18, Try.ntmps18
  go_wp2
  go_ret
  exact ⟨rfl, rfl⟩

end Go.Proofs.Ytkoeiimaflbboaa
