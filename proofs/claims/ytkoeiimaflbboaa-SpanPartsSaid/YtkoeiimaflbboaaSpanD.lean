/- The contracts of Shift, Hull and Meet, and of the document's own answers to them. -/
import Derived.Test.YtkoeiimaflbboaaSpanC
namespace Go.Proofs.Ytkoeiimaflbboaa
open Go.RowKit Go.Proofs.Ytkoeiimaflbboaa.Fl
set_option linter.unusedVariables false


theorem compare_self (m : Int) : compare m m = .eq := by simp

theorem shift_no (x y : Nat) (k : Int) (w : World) (h : sp x y = none) : Calls Try.prog 19 #[.complex .f64 x y, .int .i64 k] w fun e w' => e = .returned (.complex .f64 NEGB NEGB) ∧ w = w' := by
  have H1 := Lib.hid (fun w => may_no x y w h)
  have H2 := Lib.hid (fun w => none_code w)
  clear h
  go_enter Try.func19, Try.ntmps19
  go_wp2_with fail
  refine wp_scope_fwd 0 rfl ?_
  go_wp2_with fail
  refine (H1.out _).mono ?_; rintro e w' ⟨rfl, rfl⟩
  go_wp2
  go_step3
  refine ⟨rfl, ?_⟩
  change Code.wp _ _ _ _ _
  go_wp2_with fail
  refine (H2.out _).mono ?_; rintro e w' ⟨rfl, rfl⟩
  go_wp2
  rw [Exit.noGoto_ret]
  go_ret
  exact ⟨rfl, rfl⟩


theorem sum_run {x y k : Nat} {m n i : Int} (hx : val x = some m) (hy : val y = some n) (hk : val k = some i)
    (h1 : (m + i).natAbs < 2 ^ 53) (h2 : (n + i).natAbs < 2 ^ 53) :
    ∃ p q, val p = some (m + i) ∧ val q = some (n + i) ∧ ∀ (t : TypeId) (w : World), Sem.run Try.prog (binOp .add t (.complex .f64 x y) (.complex .f64 k k)) w = .ok (.complex .f64 p q) w := by
  obtain ⟨p, e1, v1⟩ := add_val hx hk h1
  obtain ⟨q, e2, v2⟩ := add_val hy hk h2
  refine ⟨p, q, v1, v2, fun t w => run_complex_sum w .add (Or.inl rfl) t .f64 x y k k p q ?_⟩
  have f1 : floatBits .add .f64 x k = some p := e1
  have f2 : floatBits .add .f64 y k = some q := e2
  unfold cSumBits; rw [f1, f2]; rfl

theorem shift_yes (x y : Nat) (m n k : Int) (w : World) (h : sp x y = some (m, n)) (h3 : 0 ≤ m + k) (h4 : n + k ≤ 999999999) : Calls Try.prog 19 #[.complex .f64 x y, .int .i64 k] w fun e w' => ∃ p q, e = .returned (.complex .f64 p q) ∧ val p = some (m + k) ∧ val q = some (n + k) ∧ w = w' := by
  obtain ⟨hx, hy, h0, h1, h2⟩ := sp_some h
  have H1 := Lib.hid (fun w => may_yes x y m n w h)
  have H2 := Lib.hid (fun w => from_yes x y m n w h)
  have H3 := Lib.hid (fun w => to_yes x y m n w h)
  have hk := val_floatOfInt (n := k) (by have : (2 : Nat) ^ 53 = 9007199254740992 := rfl; omega)
  obtain ⟨p, q, hp, hq, hrun⟩ := sum_run hx hy hk (by have : (2 : Nat) ^ 53 = 9007199254740992 := rfl; omega) (by have : (2 : Nat) ^ 53 = 9007199254740992 := rfl; omega)
  have HP := Lib.hid hp
  have HQ := Lib.hid hq
  have b1 : m ≤ 999999999 := Int.le_trans h1 h2
  have b0 : 0 ≤ n := Int.le_trans h0 h1
  have c0 : ¬ k < -m := by omega
  have c1 : ¬ 999999999 - n < k := by omega
  generalize hgk : floatOfInt .f64 k = kk at *
  have HK := Lib.hid hgk
  clear hx hy hk h hp hq hgk
  go_enter Try.func19, Try.ntmps19
  have HK' := HK.out
  go_wp2_with fail
  go_step3
  go_wp2_with fail
  refine (H1.out _).mono ?_; rintro e w' ⟨rfl, rfl⟩
  go_wp2_with fail
  refine (H2.out _).mono ?_; rintro e w' ⟨rfl, rfl⟩
  go_wp2_with fail
  refine (H3.out _).mono ?_; rintro e w' ⟨rfl, rfl⟩
  go_wp2
  rw [Exit.noGoto_ret]
  go_ret
  exact ⟨p, q, rfl, HP.out, HQ.out, rfl⟩

theorem shift_outa (x y : Nat) (m n k : Int) (w : World) (h : sp x y = some (m, n)) (h3 : m + k < 0) : Calls Try.prog 19 #[.complex .f64 x y, .int .i64 k] w fun e w' => e = .returned (.complex .f64 NEGB NEGB) ∧ w = w' := by
  obtain ⟨hx, hy, h0, h1, h2⟩ := sp_some h
  have H1 := Lib.hid (fun w => may_yes x y m n w h)
  have H2 := Lib.hid (fun w => from_yes x y m n w h)
  have H3 := Lib.hid (fun w => to_yes x y m n w h)
  have H4 := Lib.hid (fun w => none_code w)
  have b1 : m ≤ 999999999 := Int.le_trans h1 h2
  have b0 : 0 ≤ n := Int.le_trans h0 h1
  have c0 : k < -m := by omega
  clear hx hy h
  go_enter Try.func19, Try.ntmps19
  go_wp2_with fail
  refine wp_scope_fwd 0 rfl ?_
  go_wp2_with fail
  refine (H1.out _).mono ?_; rintro e w' ⟨rfl, rfl⟩
  go_wp2_with fail
  refine (H2.out _).mono ?_; rintro e w' ⟨rfl, rfl⟩
  go_wp2
  go_step3
  refine ⟨rfl, ?_⟩
  change Code.wp _ _ _ _ _
  go_wp2_with fail
  refine (H4.out _).mono ?_; rintro e w' ⟨rfl, rfl⟩
  go_wp2
  rw [Exit.noGoto_ret]
  go_ret
  exact ⟨rfl, rfl⟩

theorem shift_outb (x y : Nat) (m n k : Int) (w : World) (h : sp x y = some (m, n)) (h3 : 0 ≤ m + k) (h4 : 999999999 < n + k) : Calls Try.prog 19 #[.complex .f64 x y, .int .i64 k] w fun e w' => e = .returned (.complex .f64 NEGB NEGB) ∧ w = w' := by
  obtain ⟨hx, hy, h0, h1, h2⟩ := sp_some h
  have H1 := Lib.hid (fun w => may_yes x y m n w h)
  have H2 := Lib.hid (fun w => from_yes x y m n w h)
  have H3 := Lib.hid (fun w => to_yes x y m n w h)
  have H4 := Lib.hid (fun w => none_code w)
  have b1 : m ≤ 999999999 := Int.le_trans h1 h2
  have b0 : 0 ≤ n := Int.le_trans h0 h1
  have c0 : ¬ k < -m := by omega
  have c1 : 999999999 - n < k := by omega
  clear hx hy h
  go_enter Try.func19, Try.ntmps19
  go_wp2_with fail
  refine wp_scope_fwd 0 rfl ?_
  go_wp2_with fail
  refine (H1.out _).mono ?_; rintro e w' ⟨rfl, rfl⟩
  go_wp2_with fail
  refine (H2.out _).mono ?_; rintro e w' ⟨rfl, rfl⟩
  go_wp2_with fail
  refine (H3.out _).mono ?_; rintro e w' ⟨rfl, rfl⟩
  go_wp2
  go_step3
  refine ⟨rfl, ?_⟩
  change Code.wp _ _ _ _ _
  go_wp2_with fail
  refine (H4.out _).mono ?_; rintro e w' ⟨rfl, rfl⟩
  go_wp2
  rw [Exit.noGoto_ret]
  go_ret
  exact ⟨rfl, rfl⟩

theorem shiftr_no (x y : Nat) (k : Int) (w : World) (h : sp x y = none) : Calls Try.prog 20 #[.complex .f64 x y, .int .i64 k] w fun e w' => e = .returned (.complex .f64 NEGB NEGB) ∧ w = w' := by
  have C1 := fun w => mayr x y w
  rw [h] at C1
  have H1 := Lib.hid C1
  clear C1
  have H2 := Lib.hid (fun w => none_ref w)
  clear h
  go_enter Try.func20, Try.ntmps20
  go_wp2_with fail
  refine (H1.out _).mono ?_; rintro e w' ⟨rfl, rfl⟩
  go_wp2_with fail
  refine (H2.out _).mono ?_; rintro e w' ⟨rfl, rfl⟩
  go_wp2
  go_ret
  exact ⟨rfl, rfl⟩

theorem shiftr_fara (x y : Nat) (m n k : Int) (w : World) (h : sp x y = some (m, n)) (h3 : 999999999 < k) : Calls Try.prog 20 #[.complex .f64 x y, .int .i64 k] w fun e w' => e = .returned (.complex .f64 NEGB NEGB) ∧ w = w' := by
  have C1 := fun w => mayr x y w
  rw [h] at C1
  have H1 := Lib.hid C1
  clear C1
  have H2 := Lib.hid (fun w => none_ref w)
  clear h
  go_enter Try.func20, Try.ntmps20
  go_wp2_with fail
  refine (H1.out _).mono ?_; rintro e w' ⟨rfl, rfl⟩
  go_wp2_with fail
  refine (H2.out _).mono ?_; rintro e w' ⟨rfl, rfl⟩
  go_wp2
  go_ret
  exact ⟨rfl, rfl⟩

theorem shiftr_farb (x y : Nat) (m n k : Int) (w : World) (h : sp x y = some (m, n)) (h3 : k < -999999999) : Calls Try.prog 20 #[.complex .f64 x y, .int .i64 k] w fun e w' => e = .returned (.complex .f64 NEGB NEGB) ∧ w = w' := by
  have C1 := fun w => mayr x y w
  rw [h] at C1
  have H1 := Lib.hid C1
  clear C1
  have H2 := Lib.hid (fun w => none_ref w)
  have h4 : ¬ 999999999 < k := by omega
  clear h
  go_enter Try.func20, Try.ntmps20
  go_wp2_with fail
  refine (H1.out _).mono ?_; rintro e w' ⟨rfl, rfl⟩
  go_wp2_with fail
  refine (H2.out _).mono ?_; rintro e w' ⟨rfl, rfl⟩
  go_wp2
  go_ret
  exact ⟨rfl, rfl⟩

theorem shiftr_yes (x y : Nat) (m n k : Int) (w : World) (h : sp x y = some (m, n)) (k0 : -999999999 ≤ k) (k1 : k ≤ 999999999) (h3 : 0 ≤ m + k) (h4 : n + k ≤ 999999999) : Calls Try.prog 20 #[.complex .f64 x y, .int .i64 k] w fun e w' => ∃ p q, e = .returned (.complex .f64 p q) ∧ val p = some (m + k) ∧ val q = some (n + k) ∧ w = w' := by
  obtain ⟨hx, hy, h0, h1, h2⟩ := sp_some h
  have C1 := fun w => mayr x y w
  rw [h] at C1
  have H1 := Lib.hid C1
  clear C1
  have H2 := Lib.hid (fun w => fromr_yes x y m n w h)
  have H3 := Lib.hid (fun w => tor_yes x y m n w h)
  have b1 : m ≤ 999999999 := Int.le_trans h1 h2
  have b0 : 0 ≤ n := Int.le_trans h0 h1
  have c0 : ¬ 999999999 < k := by omega
  have c1 : ¬ k < -999999999 := by omega
  have H4 := Lib.hid (fun w => ofr_yes (m + k) (n + k) w h3 (by omega) h4)
  have HP := Lib.hid (val_floatOfInt (n := m + k) (by have : (2 : Nat) ^ 53 = 9007199254740992 := rfl; omega))
  have HQ := Lib.hid (val_floatOfInt (n := n + k) (by have : (2 : Nat) ^ 53 = 9007199254740992 := rfl; omega))
  clear hx hy h
  go_enter Try.func20, Try.ntmps20
  go_wp2_with fail
  refine (H1.out _).mono ?_; rintro e w' ⟨rfl, rfl⟩
  go_wp2_with fail
  refine (H2.out _).mono ?_; rintro e w' ⟨rfl, rfl⟩
  go_wp2_with fail
  refine (H3.out _).mono ?_; rintro e w' ⟨rfl, rfl⟩
  go_wp2_with fail
  refine (H4.out _).mono ?_; rintro e w' ⟨rfl, rfl⟩
  go_wp2
  go_ret
  exact ⟨_, _, rfl, HP.out, HQ.out, rfl⟩

theorem shiftr_out (x y : Nat) (m n k : Int) (w : World) (h : sp x y = some (m, n)) (k0 : -999999999 ≤ k) (k1 : k ≤ 999999999) (h3 : m + k < 0 ∨ 999999999 < n + k) : Calls Try.prog 20 #[.complex .f64 x y, .int .i64 k] w fun e w' => e = .returned (.complex .f64 NEGB NEGB) ∧ w = w' := by
  obtain ⟨hx, hy, h0, h1, h2⟩ := sp_some h
  have C1 := fun w => mayr x y w
  rw [h] at C1
  have H1 := Lib.hid C1
  clear C1
  have H2 := Lib.hid (fun w => fromr_yes x y m n w h)
  have H3 := Lib.hid (fun w => tor_yes x y m n w h)
  have b1 : m ≤ 999999999 := Int.le_trans h1 h2
  have b0 : 0 ≤ n := Int.le_trans h0 h1
  have c0 : ¬ 999999999 < k := by omega
  have c1 : ¬ k < -999999999 := by omega
  have H4 := Lib.hid (fun w => ofr_no (m + k) (n + k) w (by omega))
  clear hx hy h h3
  go_enter Try.func20, Try.ntmps20
  go_wp2_with fail
  refine (H1.out _).mono ?_; rintro e w' ⟨rfl, rfl⟩
  go_wp2_with fail
  refine (H2.out _).mono ?_; rintro e w' ⟨rfl, rfl⟩
  go_wp2_with fail
  refine (H3.out _).mono ?_; rintro e w' ⟨rfl, rfl⟩
  go_wp2_with fail
  refine (H4.out _).mono ?_; rintro e w' ⟨rfl, rfl⟩
  go_wp2
  go_ret
  exact ⟨rfl, rfl⟩


theorem run_min_float {x y : Nat} {m n : Int} (hx : val x = some m) (hy : val y = some n) :
    ∃ z, val z = some (min m n) ∧ ∀ (ts : Array TypeId) (t : TypeId) (w : World), Sem.run Try.prog (Builtin.min_ ts t #[.float .f64 x, .float .f64 y]) w = .ok (.float .f64 z) w := by
  have ho : FloatKind.f64.format.order x y = some (compare m n) := by rw [order_rfl, order_val hx hy]
  rcases Int.lt_trichotomy m n with h | h | h
  · rw [Int.compare_eq_lt.2 h] at ho
    refine ⟨x, by rw [hx]; congr 1; omega, fun ts t w => ?_⟩
    simp [Builtin.min_, Builtin.min2, ho]
  · subst h
    rw [compare_self] at ho
    refine ⟨if (FloatKind.f64.decode x).neg then x else y, by split <;> simp [hx, hy], fun ts t w => ?_⟩
    simp [Builtin.min_, Builtin.min2, ho]
  · rw [Int.compare_eq_gt.2 h] at ho
    refine ⟨y, by rw [hy]; congr 1; omega, fun ts t w => ?_⟩
    simp [Builtin.min_, Builtin.min2, ho]


theorem run_max_float {x y : Nat} {m n : Int} (hx : val x = some m) (hy : val y = some n) :
    ∃ z, val z = some (max m n) ∧ ∀ (ts : Array TypeId) (t : TypeId) (w : World), Sem.run Try.prog (Builtin.max_ ts t #[.float .f64 x, .float .f64 y]) w = .ok (.float .f64 z) w := by
  have ho : FloatKind.f64.format.order x y = some (compare m n) := by rw [order_rfl, order_val hx hy]
  rcases Int.lt_trichotomy m n with h | h | h
  · rw [Int.compare_eq_lt.2 h] at ho
    refine ⟨y, by rw [hy]; congr 1; omega, fun ts t w => ?_⟩
    simp [Builtin.max_, Builtin.max2, ho]
  · subst h
    rw [compare_self] at ho
    refine ⟨if (FloatKind.f64.decode x).neg then y else x, by split <;> simp [hx, hy], fun ts t w => ?_⟩
    simp [Builtin.max_, Builtin.max2, ho]
  · rw [Int.compare_eq_gt.2 h] at ho
    refine ⟨x, by rw [hx]; congr 1; omega, fun ts t w => ?_⟩
    simp [Builtin.max_, Builtin.max2, ho]

theorem hull_both (x y a b : Nat) (m n c d : Int) (w : World) (h : sp x y = some (m, n)) (h' : sp a b = some (c, d)) : Calls Try.prog 26 #[.complex .f64 x y, .complex .f64 a b] w fun e w' => ∃ p q, e = .returned (.complex .f64 p q) ∧ val p = some (min m c) ∧ val q = some (max n d) ∧ w = w' := by
  obtain ⟨hx, hy, _, _, _⟩ := sp_some h
  obtain ⟨ha, hb, _, _, _⟩ := sp_some h'
  have H1 := Lib.hid (fun w => may_yes x y m n w h)
  have H2 := Lib.hid (fun w => may_yes a b c d w h')
  obtain ⟨p, hp, r1⟩ := run_min_float hx ha
  obtain ⟨q, hq, r2⟩ := run_max_float hy hb
  have HP := Lib.hid hp
  have HQ := Lib.hid hq
  clear hx hy ha hb h h' hp hq
  go_enter Try.func26, Try.ntmps26
  go_wp2_with fail
  go_step3
  go_wp2_with fail
  refine (H1.out _).mono ?_; rintro e w' ⟨rfl, rfl⟩
  go_wp2_with fail
  refine (H1.out _).mono ?_; rintro e w' ⟨rfl, rfl⟩
  go_wp2_with fail
  refine (H2.out _).mono ?_; rintro e w' ⟨rfl, rfl⟩
  go_wp2
  rw [Exit.noGoto_ret]
  go_ret
  exact ⟨p, q, rfl, HP.out, HQ.out, rfl⟩

theorem hull_left (x y a b : Nat) (m n : Int) (w : World) (h : sp x y = some (m, n)) (h' : sp a b = none) : Calls Try.prog 26 #[.complex .f64 x y, .complex .f64 a b] w fun e w' => e = .returned (.complex .f64 x y) ∧ w = w' := by
  have H1 := Lib.hid (fun w => may_yes x y m n w h)
  have H2 := Lib.hid (fun w => may_no a b w h')
  clear h h'
  go_enter Try.func26, Try.ntmps26
  go_wp2_with fail
  go_step3
  go_wp2_with fail
  refine (H1.out _).mono ?_; rintro e w' ⟨rfl, rfl⟩
  go_wp2_with fail
  refine (H1.out _).mono ?_; rintro e w' ⟨rfl, rfl⟩
  go_wp2_with fail
  refine (H2.out _).mono ?_; rintro e w' ⟨rfl, rfl⟩
  go_wp2
  rw [Exit.noGoto_ret]
  go_ret
  exact ⟨rfl, rfl⟩

theorem hull_right (x y a b : Nat) (m n : Int) (w : World) (h : sp x y = none) (h' : sp a b = some (m, n)) : Calls Try.prog 26 #[.complex .f64 x y, .complex .f64 a b] w fun e w' => e = .returned (.complex .f64 a b) ∧ w = w' := by
  have H1 := Lib.hid (fun w => may_no x y w h)
  have H2 := Lib.hid (fun w => may_yes a b m n w h')
  clear h h'
  go_enter Try.func26, Try.ntmps26
  go_wp2_with fail
  go_step3
  go_wp2_with fail
  refine (H1.out _).mono ?_; rintro e w' ⟨rfl, rfl⟩
  go_wp2_with fail
  refine (H2.out _).mono ?_; rintro e w' ⟨rfl, rfl⟩
  go_wp2_with fail
  refine (H1.out _).mono ?_; rintro e w' ⟨rfl, rfl⟩
  go_wp2
  rw [Exit.noGoto_ret]
  go_ret
  exact ⟨rfl, rfl⟩

theorem hull_none (x y a b : Nat) (w : World) (h : sp x y = none) (h' : sp a b = none) : Calls Try.prog 26 #[.complex .f64 x y, .complex .f64 a b] w fun e w' => e = .returned (.complex .f64 NEGB NEGB) ∧ w = w' := by
  have H1 := Lib.hid (fun w => may_no x y w h)
  have H2 := Lib.hid (fun w => may_no a b w h')
  have H3 := Lib.hid (fun w => none_code w)
  clear h h'
  go_enter Try.func26, Try.ntmps26
  go_wp2_with fail
  refine wp_scope_fwd 0 rfl ?_
  go_wp2_with fail
  refine (H1.out _).mono ?_; rintro e w' ⟨rfl, rfl⟩
  go_wp2_with fail
  refine (H2.out _).mono ?_; rintro e w' ⟨rfl, rfl⟩
  go_wp2
  go_step3
  refine ⟨rfl, ?_⟩
  change Code.wp _ _ _ _ _
  go_wp2_with fail
  refine (H3.out _).mono ?_; rintro e w' ⟨rfl, rfl⟩
  go_wp2
  rw [Exit.noGoto_ret]
  go_ret
  exact ⟨rfl, rfl⟩

theorem hullr_both (x y a b : Nat) (m n c d : Int) (w : World) (h : sp x y = some (m, n)) (h' : sp a b = some (c, d)) : Calls Try.prog 27 #[.complex .f64 x y, .complex .f64 a b] w fun e w' => ∃ p q, e = .returned (.complex .f64 p q) ∧ val p = some (min m c) ∧ val q = some (max n d) ∧ w = w' := by
  obtain ⟨_, _, h0, h1, h2⟩ := sp_some h
  obtain ⟨_, _, g0, g1, g2⟩ := sp_some h'
  have C1 := fun w => mayr x y w
  rw [h] at C1
  have H1 := Lib.hid C1
  clear C1
  have C2 := fun w => mayr a b w
  rw [h'] at C2
  have H2 := Lib.hid C2
  clear C2
  have H3 := Lib.hid (fun w => fromr_yes x y m n w h)
  have H4 := Lib.hid (fun w => fromr_yes a b c d w h')
  have H5 := Lib.hid (fun w => tor_yes x y m n w h)
  have H6 := Lib.hid (fun w => tor_yes a b c d w h')
  clear h h'
  by_cases q1 : c < m <;> by_cases q2 : n < d
  · have H7 := Lib.hid (fun w => ofr_yes (c) (d) w (by omega) (by omega) (by omega))
    have HP := Lib.hid (val_floatOfInt (n := c) (by have : (2 : Nat) ^ 53 = 9007199254740992 := rfl; omega))
    have HQ := Lib.hid (val_floatOfInt (n := d) (by have : (2 : Nat) ^ 53 = 9007199254740992 := rfl; omega))
    go_enter Try.func27, Try.ntmps27
    go_wp2_with fail
    refine (H1.out _).mono ?_; rintro e w' ⟨rfl, rfl⟩
    go_wp2_with fail
    refine (H1.out _).mono ?_; rintro e w' ⟨rfl, rfl⟩
    go_wp2_with fail
    refine (H2.out _).mono ?_; rintro e w' ⟨rfl, rfl⟩
    go_wp2_with fail
    refine (H3.out _).mono ?_; rintro e w' ⟨rfl, rfl⟩
    go_wp2_with fail
    refine (H4.out _).mono ?_; rintro e w' ⟨rfl, rfl⟩
    go_wp2_with fail
    refine (H5.out _).mono ?_; rintro e w' ⟨rfl, rfl⟩
    go_wp2_with fail
    refine (H6.out _).mono ?_; rintro e w' ⟨rfl, rfl⟩
    go_wp2_with fail
    refine (H7.out _).mono ?_; rintro e w' ⟨rfl, rfl⟩
    go_wp2
    go_ret
    exact ⟨_, _, rfl, by rw [HP.out]; congr 1; omega, by rw [HQ.out]; congr 1; omega, rfl⟩
  · have H7 := Lib.hid (fun w => ofr_yes (c) (n) w (by omega) (by omega) (by omega))
    have HP := Lib.hid (val_floatOfInt (n := c) (by have : (2 : Nat) ^ 53 = 9007199254740992 := rfl; omega))
    have HQ := Lib.hid (val_floatOfInt (n := n) (by have : (2 : Nat) ^ 53 = 9007199254740992 := rfl; omega))
    go_enter Try.func27, Try.ntmps27
    go_wp2_with fail
    refine (H1.out _).mono ?_; rintro e w' ⟨rfl, rfl⟩
    go_wp2_with fail
    refine (H1.out _).mono ?_; rintro e w' ⟨rfl, rfl⟩
    go_wp2_with fail
    refine (H2.out _).mono ?_; rintro e w' ⟨rfl, rfl⟩
    go_wp2_with fail
    refine (H3.out _).mono ?_; rintro e w' ⟨rfl, rfl⟩
    go_wp2_with fail
    refine (H4.out _).mono ?_; rintro e w' ⟨rfl, rfl⟩
    go_wp2_with fail
    refine (H5.out _).mono ?_; rintro e w' ⟨rfl, rfl⟩
    go_wp2_with fail
    refine (H6.out _).mono ?_; rintro e w' ⟨rfl, rfl⟩
    go_wp2_with fail
    refine (H7.out _).mono ?_; rintro e w' ⟨rfl, rfl⟩
    go_wp2
    go_ret
    exact ⟨_, _, rfl, by rw [HP.out]; congr 1; omega, by rw [HQ.out]; congr 1; omega, rfl⟩
  · have H7 := Lib.hid (fun w => ofr_yes (m) (d) w (by omega) (by omega) (by omega))
    have HP := Lib.hid (val_floatOfInt (n := m) (by have : (2 : Nat) ^ 53 = 9007199254740992 := rfl; omega))
    have HQ := Lib.hid (val_floatOfInt (n := d) (by have : (2 : Nat) ^ 53 = 9007199254740992 := rfl; omega))
    go_enter Try.func27, Try.ntmps27
    go_wp2_with fail
    refine (H1.out _).mono ?_; rintro e w' ⟨rfl, rfl⟩
    go_wp2_with fail
    refine (H1.out _).mono ?_; rintro e w' ⟨rfl, rfl⟩
    go_wp2_with fail
    refine (H2.out _).mono ?_; rintro e w' ⟨rfl, rfl⟩
    go_wp2_with fail
    refine (H3.out _).mono ?_; rintro e w' ⟨rfl, rfl⟩
    go_wp2_with fail
    refine (H4.out _).mono ?_; rintro e w' ⟨rfl, rfl⟩
    go_wp2_with fail
    refine (H5.out _).mono ?_; rintro e w' ⟨rfl, rfl⟩
    go_wp2_with fail
    refine (H6.out _).mono ?_; rintro e w' ⟨rfl, rfl⟩
    go_wp2_with fail
    refine (H7.out _).mono ?_; rintro e w' ⟨rfl, rfl⟩
    go_wp2
    go_ret
    exact ⟨_, _, rfl, by rw [HP.out]; congr 1; omega, by rw [HQ.out]; congr 1; omega, rfl⟩
  · have H7 := Lib.hid (fun w => ofr_yes (m) (n) w (by omega) (by omega) (by omega))
    have HP := Lib.hid (val_floatOfInt (n := m) (by have : (2 : Nat) ^ 53 = 9007199254740992 := rfl; omega))
    have HQ := Lib.hid (val_floatOfInt (n := n) (by have : (2 : Nat) ^ 53 = 9007199254740992 := rfl; omega))
    go_enter Try.func27, Try.ntmps27
    go_wp2_with fail
    refine (H1.out _).mono ?_; rintro e w' ⟨rfl, rfl⟩
    go_wp2_with fail
    refine (H1.out _).mono ?_; rintro e w' ⟨rfl, rfl⟩
    go_wp2_with fail
    refine (H2.out _).mono ?_; rintro e w' ⟨rfl, rfl⟩
    go_wp2_with fail
    refine (H3.out _).mono ?_; rintro e w' ⟨rfl, rfl⟩
    go_wp2_with fail
    refine (H4.out _).mono ?_; rintro e w' ⟨rfl, rfl⟩
    go_wp2_with fail
    refine (H5.out _).mono ?_; rintro e w' ⟨rfl, rfl⟩
    go_wp2_with fail
    refine (H6.out _).mono ?_; rintro e w' ⟨rfl, rfl⟩
    go_wp2_with fail
    refine (H7.out _).mono ?_; rintro e w' ⟨rfl, rfl⟩
    go_wp2
    go_ret
    exact ⟨_, _, rfl, by rw [HP.out]; congr 1; omega, by rw [HQ.out]; congr 1; omega, rfl⟩

theorem hullr_left (x y a b : Nat) (m n : Int) (w : World) (h : sp x y = some (m, n)) (h' : sp a b = none) : Calls Try.prog 27 #[.complex .f64 x y, .complex .f64 a b] w fun e w' => e = .returned (.complex .f64 x y) ∧ w = w' := by
  have C1 := fun w => mayr x y w
  rw [h] at C1
  have H1 := Lib.hid C1
  clear C1
  have C2 := fun w => mayr a b w
  rw [h'] at C2
  have H2 := Lib.hid C2
  clear C2
  clear h h'
  go_enter Try.func27, Try.ntmps27
  go_wp2_with fail
  refine (H1.out _).mono ?_; rintro e w' ⟨rfl, rfl⟩
  go_wp2_with fail
  refine (H1.out _).mono ?_; rintro e w' ⟨rfl, rfl⟩
  go_wp2_with fail
  refine (H2.out _).mono ?_; rintro e w' ⟨rfl, rfl⟩
  go_wp2
  go_ret
  exact ⟨rfl, rfl⟩

theorem hullr_right (x y a b : Nat) (m n : Int) (w : World) (h : sp x y = none) (h' : sp a b = some (m, n)) : Calls Try.prog 27 #[.complex .f64 x y, .complex .f64 a b] w fun e w' => e = .returned (.complex .f64 a b) ∧ w = w' := by
  have C1 := fun w => mayr x y w
  rw [h] at C1
  have H1 := Lib.hid C1
  clear C1
  have C2 := fun w => mayr a b w
  rw [h'] at C2
  have H2 := Lib.hid C2
  clear C2
  clear h h'
  go_enter Try.func27, Try.ntmps27
  go_wp2_with fail
  refine (H1.out _).mono ?_; rintro e w' ⟨rfl, rfl⟩
  go_wp2_with fail
  refine (H2.out _).mono ?_; rintro e w' ⟨rfl, rfl⟩
  go_wp2_with fail
  refine (H1.out _).mono ?_; rintro e w' ⟨rfl, rfl⟩
  go_wp2
  go_ret
  exact ⟨rfl, rfl⟩

theorem hullr_none (x y a b : Nat) (w : World) (h : sp x y = none) (h' : sp a b = none) : Calls Try.prog 27 #[.complex .f64 x y, .complex .f64 a b] w fun e w' => e = .returned (.complex .f64 NEGB NEGB) ∧ w = w' := by
  have C1 := fun w => mayr x y w
  rw [h] at C1
  have H1 := Lib.hid C1
  clear C1
  have C2 := fun w => mayr a b w
  rw [h'] at C2
  have H2 := Lib.hid C2
  clear C2
  have H3 := Lib.hid (fun w => none_ref w)
  clear h h'
  go_enter Try.func27, Try.ntmps27
  go_wp2_with fail
  refine (H1.out _).mono ?_; rintro e w' ⟨rfl, rfl⟩
  go_wp2_with fail
  refine (H2.out _).mono ?_; rintro e w' ⟨rfl, rfl⟩
  go_wp2_with fail
  refine (H3.out _).mono ?_; rintro e w' ⟨rfl, rfl⟩
  go_wp2
  go_ret
  exact ⟨rfl, rfl⟩

theorem meet_both (x y a b : Nat) (m n c d : Int) (w : World) (h : sp x y = some (m, n)) (h' : sp a b = some (c, d)) : Calls Try.prog 28 #[.complex .f64 x y, .complex .f64 a b] w fun e w' => e = .returned (.bool (decide (max m c < min n d))) ∧ w = w' := by
  obtain ⟨hx, hy, _, _, _⟩ := sp_some h
  obtain ⟨ha, hb, _, _, _⟩ := sp_some h'
  have H1 := Lib.hid (fun w => may_yes x y m n w h)
  have H2 := Lib.hid (fun w => may_yes a b c d w h')
  obtain ⟨p, hp, r1⟩ := run_max_float hx ha
  obtain ⟨q, hq, r2⟩ := run_min_float hy hb
  have ho : FloatKind.f64.format.order p q = some (compare (max m c) (min n d)) := by rw [order_rfl, order_val hp hq]
  have hl : (FloatKind.f64.format.order p q == some .lt) = decide (max m c < min n d) := by
    rw [ho]
    rcases Int.lt_trichotomy (max m c) (min n d) with g | g | g
    · rw [Int.compare_eq_lt.2 g]; simp [g]
    · rw [g, compare_self]; simp
    · rw [Int.compare_eq_gt.2 g]
      have : ¬ max m c < min n d := by omega
      simp only [this, decide_false]; rfl
  have HL := Lib.hid hl
  clear hx hy ha hb h h' hp hq ho hl
  go_enter Try.func28, Try.ntmps28
  go_wp2_with fail
  refine (H1.out _).mono ?_; rintro e w' ⟨rfl, rfl⟩
  go_wp2_with fail
  refine (H2.out _).mono ?_; rintro e w' ⟨rfl, rfl⟩
  go_wp2
  go_ret
  refine ⟨?_, rfl⟩
  exact congrArg (fun t => Ending.returned (Value.bool t)) HL.out

theorem meet_left (x y a b : Nat) (w : World) (h : sp x y = none) : Calls Try.prog 28 #[.complex .f64 x y, .complex .f64 a b] w fun e w' => e = .returned (.bool false) ∧ w = w' := by
  have H1 := Lib.hid (fun w => may_no x y w h)
  clear h
  go_enter Try.func28, Try.ntmps28
  go_wp2_with fail
  refine (H1.out _).mono ?_; rintro e w' ⟨rfl, rfl⟩
  go_wp2
  go_ret
  exact ⟨rfl, rfl⟩

theorem meet_right (x y a b : Nat) (w : World) (m n : Int) (h : sp x y = some (m, n)) (h' : sp a b = none) : Calls Try.prog 28 #[.complex .f64 x y, .complex .f64 a b] w fun e w' => e = .returned (.bool false) ∧ w = w' := by
  have H1 := Lib.hid (fun w => may_yes x y m n w h)
  have H2 := Lib.hid (fun w => may_no a b w h')
  clear h h'
  go_enter Try.func28, Try.ntmps28
  go_wp2_with fail
  refine (H1.out _).mono ?_; rintro e w' ⟨rfl, rfl⟩
  go_wp2_with fail
  refine (H2.out _).mono ?_; rintro e w' ⟨rfl, rfl⟩
  go_wp2
  go_ret
  exact ⟨rfl, rfl⟩

theorem meetr_both (x y a b : Nat) (m n c d : Int) (w : World) (h : sp x y = some (m, n)) (h' : sp a b = some (c, d)) : Calls Try.prog 29 #[.complex .f64 x y, .complex .f64 a b] w fun e w' => e = .returned (.bool (decide (max m c < min n d))) ∧ w = w' := by
  have C1 := fun w => mayr x y w
  rw [h] at C1
  have H1 := Lib.hid C1
  clear C1
  have C2 := fun w => mayr a b w
  rw [h'] at C2
  have H2 := Lib.hid C2
  clear C2
  have H3 := Lib.hid (fun w => fromr_yes x y m n w h)
  have H4 := Lib.hid (fun w => fromr_yes a b c d w h')
  have H5 := Lib.hid (fun w => tor_yes x y m n w h)
  have H6 := Lib.hid (fun w => tor_yes a b c d w h')
  clear h h'
  by_cases q1 : m < c <;> by_cases q2 : d < n
  all_goals
    go_enter Try.func29, Try.ntmps29
    go_wp2_with fail
    refine (H1.out _).mono ?_; rintro e w' ⟨rfl, rfl⟩
    go_wp2_with fail
    refine (H2.out _).mono ?_; rintro e w' ⟨rfl, rfl⟩
    go_wp2_with fail
    refine (H3.out _).mono ?_; rintro e w' ⟨rfl, rfl⟩
    go_wp2_with fail
    refine (H4.out _).mono ?_; rintro e w' ⟨rfl, rfl⟩
    go_wp2_with fail
    refine (H5.out _).mono ?_; rintro e w' ⟨rfl, rfl⟩
    go_wp2_with fail
    refine (H6.out _).mono ?_; rintro e w' ⟨rfl, rfl⟩
    go_wp2
    go_ret
    refine ⟨?_, rfl⟩
    refine congrArg (fun t => Ending.returned (Value.bool t)) ?_
    rw [decide_eq_decide]
    omega

theorem meetr_left (x y a b : Nat) (w : World) (h : sp x y = none) : Calls Try.prog 29 #[.complex .f64 x y, .complex .f64 a b] w fun e w' => e = .returned (.bool false) ∧ w = w' := by
  have C1 := fun w => mayr x y w
  rw [h] at C1
  have H1 := Lib.hid C1
  clear C1
  clear h
  go_enter Try.func29, Try.ntmps29
  go_wp2_with fail
  refine (H1.out _).mono ?_; rintro e w' ⟨rfl, rfl⟩
  go_wp2
  go_ret
  exact ⟨rfl, rfl⟩

theorem meetr_right (x y a b : Nat) (w : World) (m n : Int) (h : sp x y = some (m, n)) (h' : sp a b = none) : Calls Try.prog 29 #[.complex .f64 x y, .complex .f64 a b] w fun e w' => e = .returned (.bool false) ∧ w = w' := by
  have C1 := fun w => mayr x y w
  rw [h] at C1
  have H1 := Lib.hid C1
  clear C1
  have C2 := fun w => mayr a b w
  rw [h'] at C2
  have H2 := Lib.hid C2
  clear C2
  clear h h'
  go_enter Try.func29, Try.ntmps29
  go_wp2_with fail
  refine (H1.out _).mono ?_; rintro e w' ⟨rfl, rfl⟩
  go_wp2_with fail
  refine (H2.out _).mono ?_; rintro e w' ⟨rfl, rfl⟩
  go_wp2
  go_ret
  exact ⟨rfl, rfl⟩

end Go.Proofs.Ytkoeiimaflbboaa
