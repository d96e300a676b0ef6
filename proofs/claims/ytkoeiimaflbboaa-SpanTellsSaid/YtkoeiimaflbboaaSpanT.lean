/- The walk of the statement SpanTells. -/
import Derived.Test.YtkoeiimaflbboaaSpanE
namespace Go.Proofs.Ytkoeiimaflbboaa
open Go.RowKit Go.Proofs.Ytkoeiimaflbboaa.Fl
set_option linter.unusedVariables false

def frI (s : Option (Int × Int)) : Int := match s with | some (m, _) => m | none => -1
def toI (s : Option (Int × Int)) : Int := match s with | some (_, n) => n | none => -1
def lenI (s : Option (Int × Int)) : Int := match s with | some (m, n) => n - m | none => 0
def shI (s : Option (Int × Int)) (k : Int) : Int × Int := match s with
  | some (m, n) => if 0 ≤ m + k ∧ n + k ≤ 999999999 then (m + k, n + k) else (-1, -1)
  | none => (-1, -1)

theorem may_any (x y : Nat) (w : World) : Calls Try.prog 10 #[.complex .f64 x y] w fun e w' => e = .returned (.bool (sp x y).isSome) ∧ w = w' := by
  cases h : sp x y with
  | none => exact may_no x y w h
  | some q => exact may_yes x y q.1 q.2 w h
theorem from_any (x y : Nat) (w : World) : Calls Try.prog 12 #[.complex .f64 x y] w fun e w' => e = .returned (.int .i64 (frI (sp x y))) ∧ w = w' := by
  cases h : sp x y with
  | none => exact from_no x y w h
  | some q => exact from_yes x y q.1 q.2 w h
theorem fromr_any (x y : Nat) (w : World) : Calls Try.prog 13 #[.complex .f64 x y] w fun e w' => e = .returned (.int .i64 (frI (sp x y))) ∧ w = w' := by
  cases h : sp x y with
  | none => exact fromr_no x y w h
  | some q => exact fromr_yes x y q.1 q.2 w h
theorem to_any (x y : Nat) (w : World) : Calls Try.prog 14 #[.complex .f64 x y] w fun e w' => e = .returned (.int .i64 (toI (sp x y))) ∧ w = w' := by
  cases h : sp x y with
  | none => exact to_no x y w h
  | some q => exact to_yes x y q.1 q.2 w h
theorem tor_any (x y : Nat) (w : World) : Calls Try.prog 15 #[.complex .f64 x y] w fun e w' => e = .returned (.int .i64 (toI (sp x y))) ∧ w = w' := by
  cases h : sp x y with
  | none => exact tor_no x y w h
  | some q => exact tor_yes x y q.1 q.2 w h
theorem len_any (x y : Nat) (w : World) : Calls Try.prog 16 #[.complex .f64 x y] w fun e w' => e = .returned (.int .i64 (lenI (sp x y))) ∧ w = w' := by
  cases h : sp x y with
  | none => exact len_no x y w h
  | some q => exact len_yes x y q.1 q.2 w h
theorem lenr_any (x y : Nat) (w : World) : Calls Try.prog 17 #[.complex .f64 x y] w fun e w' => e = .returned (.int .i64 (lenI (sp x y))) ∧ w = w' := by
  cases h : sp x y with
  | none => exact lenr_no x y w h
  | some q => exact lenr_yes x y q.1 q.2 w h

theorem shift_any (x y : Nat) (k : Int) (w : World) : Calls Try.prog 19 #[.complex .f64 x y, .int .i64 k] w fun e w' =>
    ∃ p q, e = .returned (.complex .f64 p q) ∧ val p = some (shI (sp x y) k).1 ∧ val q = some (shI (sp x y) k).2 ∧ w = w' := by
  cases h : sp x y with
  | none => exact (shift_no x y k w h).mono fun e w' ⟨he, hw⟩ => ⟨_, _, he, val_neg, val_neg, hw⟩
  | some q =>
    obtain ⟨m, n⟩ := q
    by_cases hc : 0 ≤ m + k ∧ n + k ≤ 999999999
    · have e : shI (some (m, n)) k = (m + k, n + k) := by unfold shI; simp [hc]
      rw [e]
      exact shift_yes x y m n k w h hc.1 hc.2
    · have e : shI (some (m, n)) k = (-1, -1) := by unfold shI; simp [hc]
      rw [e]
      by_cases h3 : m + k < 0
      · exact (shift_outa x y m n k w h h3).mono fun e w' ⟨he, hw⟩ => ⟨_, _, he, val_neg, val_neg, hw⟩
      · exact (shift_outb x y m n k w h (by omega) (by omega)).mono fun e w' ⟨he, hw⟩ => ⟨_, _, he, val_neg, val_neg, hw⟩

theorem shiftr_any (x y : Nat) (k : Int) (w : World) : Calls Try.prog 20 #[.complex .f64 x y, .int .i64 k] w fun e w' =>
    ∃ p q, e = .returned (.complex .f64 p q) ∧ val p = some (shI (sp x y) k).1 ∧ val q = some (shI (sp x y) k).2 ∧ w = w' := by
  cases h : sp x y with
  | none => exact (shiftr_no x y k w h).mono fun e w' ⟨he, hw⟩ => ⟨_, _, he, val_neg, val_neg, hw⟩
  | some q =>
    obtain ⟨m, n⟩ := q
    obtain ⟨_, _, b0, b1, b2⟩ := sp_some h
    by_cases hc : 0 ≤ m + k ∧ n + k ≤ 999999999
    · have e : shI (some (m, n)) k = (m + k, n + k) := by unfold shI; simp [hc]
      rw [e]
      exact shiftr_yes x y m n k w h (by omega) (by omega) hc.1 hc.2
    · have e : shI (some (m, n)) k = (-1, -1) := by unfold shI; simp [hc]
      rw [e]
      by_cases h3 : 999999999 < k
      · exact (shiftr_fara x y m n k w h h3).mono fun e w' ⟨he, hw⟩ => ⟨_, _, he, val_neg, val_neg, hw⟩
      · by_cases h4 : k < -999999999
        · exact (shiftr_farb x y m n k w h h4).mono fun e w' ⟨he, hw⟩ => ⟨_, _, he, val_neg, val_neg, hw⟩
        · exact (shiftr_out x y m n k w h (by omega) (by omega) (by omega)).mono fun e w' ⟨he, hw⟩ => ⟨_, _, he, val_neg, val_neg, hw⟩

theorem tells_walk (a b : Nat) (n : Int) (wn : (Lit.int .i64 n).wf = true) (w : World) :
    Calls Try.prog 3 #[.float .f64 a, .float .f64 b, .int .i64 n] w fun e w' => e = .returned (.bool true) ∧ Grown w w' := by
  clear wn
  have H1 := Lib.hid (fun w => may_any a b w)
  have H2 := Lib.hid (fun w => mayr a b w)
  have H3 := Lib.hid (fun w => from_any a b w)
  have H4 := Lib.hid (fun w => fromr_any a b w)
  have H5 := Lib.hid (fun w => to_any a b w)
  have H6 := Lib.hid (fun w => tor_any a b w)
  have H7 := Lib.hid (fun w => len_any a b w)
  have H8 := Lib.hid (fun w => lenr_any a b w)
  have H9 := Lib.hid (fun w => shift_any a b n w)
  have H10 := Lib.hid (fun w => shiftr_any a b n w)
  have H11 := Lib.hid (fun w => none_code w)
  have H12 := Lib.hid (fun w => none_ref w)
  have H13 := Lib.hid (fun w => same_yes NEGB NEGB NEGB NEGB _ _ w val_neg val_neg val_neg val_neg)
  have H14 := Lib.hid (fun w => shown_true w)
  generalize (shI (sp a b) n).1 = s1 at *
  generalize (shI (sp a b) n).2 = s2 at *
  generalize (sp a b).isSome = b1 at *
  generalize frI (sp a b) = i1 at *
  generalize toI (sp a b) = i2 at *
  generalize lenI (sp a b) = i3 at *
  go_enter Try.func3, Try.ntmps3
  go_wp2_with fail
  refine (H1.out _).mono ?_; rintro e w' ⟨rfl, rfl⟩
  go_wp2_with fail
  refine (H2.out _).mono ?_; rintro e w' ⟨rfl, rfl⟩
  go_wp2_with fail
  refine (H3.out _).mono ?_; rintro e w' ⟨rfl, rfl⟩
  go_wp2_with fail
  refine (H4.out _).mono ?_; rintro e w' ⟨rfl, rfl⟩
  go_wp2_with fail
  refine (H5.out _).mono ?_; rintro e w' ⟨rfl, rfl⟩
  go_wp2_with fail
  refine (H6.out _).mono ?_; rintro e w' ⟨rfl, rfl⟩
  go_wp2_with fail
  refine (H7.out _).mono ?_; rintro e w' ⟨rfl, rfl⟩
  go_wp2_with fail
  refine (H8.out _).mono ?_; rintro e w' ⟨rfl, rfl⟩
  go_wp2_with fail
  refine (H9.out _).mono ?_; rintro e w' ⟨p, q, rfl, hp, hq, rfl⟩
  have HP := Lib.hid hp
  have HQ := Lib.hid hq
  clear hp hq
  go_wp2_with fail
  refine (H10.out _).mono ?_; rintro e w' ⟨p', q', rfl, hp', hq', rfl⟩
  have HP' := Lib.hid hp'
  have HQ' := Lib.hid hq'
  clear hp' hq'
  go_wp2_with fail
  refine (same_yes p q p' q' _ _ _ HP.out HQ.out HP'.out HQ'.out).mono ?_; rintro e w' ⟨rfl, rfl⟩
  go_wp2_with fail
  refine (H11.out _).mono ?_; rintro e w' ⟨rfl, rfl⟩
  go_wp2_with fail
  refine (H12.out _).mono ?_; rintro e w' ⟨rfl, rfl⟩
  go_wp2_with fail
  refine (H13.out _).mono ?_; rintro e w' ⟨rfl, rfl⟩
  go_wp2_with fail
  refine (H14.out _).mono ?_; rintro e w' ⟨rfl, rfl⟩
  go_wp2
  go_ret
  exact ⟨rfl, Grown.refl _⟩

end Go.Proofs.Ytkoeiimaflbboaa
