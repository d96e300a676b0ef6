/- The walk of the statement SpanHulls. -/
import Derived.Test.YtkoeiimaflbboaaSpanE
namespace Go.Proofs.Ytkoeiimaflbboaa
open Go.RowKit Go.Proofs.Ytkoeiimaflbboaa.Fl
set_option linter.unusedVariables false

/-- Two complex numbers are alike: they are the same words, or the same whole numbers. What a span's words read as. -/
theorem same_self (x y : Nat) (m n : Int) (w : World) (h : sp x y = some (m, n)) :
    Calls Try.prog 18 #[.complex .f64 x y, .complex .f64 x y] w fun e w' => e = .returned (.bool true) ∧ w = w' := by
  obtain ⟨hx, hy, _, _, _⟩ := sp_some h
  exact same_yes x y x y m n w hx hy hx hy

def huI (s t : Option (Int × Int)) : Int × Int := match s, t with
  | some (m, n), some (c, d) => (min m c, max n d)
  | some (m, n), none => (m, n)
  | none, some (c, d) => (c, d)
  | none, none => (-1, -1)

def meetB (s t : Option (Int × Int)) : Bool := match s, t with
  | some (m, n), some (c, d) => decide (max m c < min n d)
  | _, _ => false

theorem meetB_comm (s t : Option (Int × Int)) : meetB s t = meetB t s := by
  unfold meetB
  rcases s with _ | ⟨m, n⟩ <;> rcases t with _ | ⟨c, d⟩ <;> first | rfl | (simp only [decide_eq_decide]; omega)

theorem hull_any (x y a b : Nat) (w : World) : Calls Try.prog 26 #[.complex .f64 x y, .complex .f64 a b] w fun e w' =>
    ∃ p q, e = .returned (.complex .f64 p q) ∧ val p = some (huI (sp x y) (sp a b)).1 ∧ val q = some (huI (sp x y) (sp a b)).2 ∧ w = w' := by
  cases h : sp x y with
  | none => cases h' : sp a b with
    | none => exact (hull_none x y a b w h h').mono fun e w' ⟨he, hw⟩ => ⟨_, _, he, val_neg, val_neg, hw⟩
    | some t =>
      obtain ⟨c, d⟩ := t
      exact (hull_right x y a b c d w h h').mono fun e w' ⟨he, hw⟩ => ⟨_, _, he, (sp_some h').1, (sp_some h').2.1, hw⟩
  | some s =>
    obtain ⟨m, n⟩ := s
    cases h' : sp a b with
    | none => exact (hull_left x y a b m n w h h').mono fun e w' ⟨he, hw⟩ => ⟨_, _, he, (sp_some h).1, (sp_some h).2.1, hw⟩
    | some t =>
      obtain ⟨c, d⟩ := t
      exact hull_both x y a b m n c d w h h'

theorem hullr_any (x y a b : Nat) (w : World) : Calls Try.prog 27 #[.complex .f64 x y, .complex .f64 a b] w fun e w' =>
    ∃ p q, e = .returned (.complex .f64 p q) ∧ val p = some (huI (sp x y) (sp a b)).1 ∧ val q = some (huI (sp x y) (sp a b)).2 ∧ w = w' := by
  cases h : sp x y with
  | none => cases h' : sp a b with
    | none => exact (hullr_none x y a b w h h').mono fun e w' ⟨he, hw⟩ => ⟨_, _, he, val_neg, val_neg, hw⟩
    | some t =>
      obtain ⟨c, d⟩ := t
      exact (hullr_right x y a b c d w h h').mono fun e w' ⟨he, hw⟩ => ⟨_, _, he, (sp_some h').1, (sp_some h').2.1, hw⟩
  | some s =>
    obtain ⟨m, n⟩ := s
    cases h' : sp a b with
    | none => exact (hullr_left x y a b m n w h h').mono fun e w' ⟨he, hw⟩ => ⟨_, _, he, (sp_some h).1, (sp_some h).2.1, hw⟩
    | some t =>
      obtain ⟨c, d⟩ := t
      exact hullr_both x y a b m n c d w h h'

theorem meet_any (x y a b : Nat) (w : World) : Calls Try.prog 28 #[.complex .f64 x y, .complex .f64 a b] w fun e w' =>
    e = .returned (.bool (meetB (sp x y) (sp a b))) ∧ w = w' := by
  cases h : sp x y with
  | none => exact meet_left x y a b w h
  | some s =>
    obtain ⟨m, n⟩ := s
    cases h' : sp a b with
    | none => exact meet_right x y a b w m n h h'
    | some t =>
      obtain ⟨c, d⟩ := t
      exact meet_both x y a b m n c d w h h'

theorem meetr_any (x y a b : Nat) (w : World) : Calls Try.prog 29 #[.complex .f64 x y, .complex .f64 a b] w fun e w' =>
    e = .returned (.bool (meetB (sp x y) (sp a b))) ∧ w = w' := by
  cases h : sp x y with
  | none => exact meetr_left x y a b w h
  | some s =>
    obtain ⟨m, n⟩ := s
    cases h' : sp a b with
    | none => exact meetr_right x y a b w m n h h'
    | some t =>
      obtain ⟨c, d⟩ := t
      exact meetr_both x y a b m n c d w h h'

theorem hulls_walk (a b c d : Nat) (w : World) :
    Calls Try.prog 5 #[.float .f64 a, .float .f64 b, .float .f64 c, .float .f64 d] w fun e w' => e = .returned (.bool true) ∧ Grown w w' := by
  have H1 := Lib.hid (fun w => hull_any a b c d w)
  have H2 := Lib.hid (fun w => hullr_any a b c d w)
  have H3 := Lib.hid (fun w => meet_any a b c d w)
  have H4 := Lib.hid (fun w => meetr_any a b c d w)
  have C5 := fun w => meet_any c d a b w
  rw [meetB_comm] at C5
  have H5 := Lib.hid C5
  have H6 := Lib.hid (fun w => shown_true w)
  clear C5
  generalize (huI (sp a b) (sp c d)).1 = s1 at *
  generalize (huI (sp a b) (sp c d)).2 = s2 at *
  generalize meetB (sp a b) (sp c d) = b1 at *
  go_enter Try.func5, Try.ntmps5
  go_wp2_with fail
  refine (H1.out _).mono ?_; rintro e w' ⟨p, q, rfl, hp, hq, rfl⟩
  have HP := Lib.hid hp
  have HQ := Lib.hid hq
  clear hp hq
  go_wp2_with fail
  refine (H2.out _).mono ?_; rintro e w' ⟨p', q', rfl, hp', hq', rfl⟩
  have HP' := Lib.hid hp'
  have HQ' := Lib.hid hq'
  clear hp' hq'
  go_wp2_with fail
  refine (same_yes p q p' q' _ _ _ HP.out HQ.out HP'.out HQ'.out).mono ?_; rintro e w' ⟨rfl, rfl⟩
  go_wp2_with fail
  refine (H3.out _).mono ?_; rintro e w' ⟨rfl, rfl⟩
  go_wp2_with fail
  refine (H4.out _).mono ?_; rintro e w' ⟨rfl, rfl⟩
  go_wp2_with fail
  refine (H3.out _).mono ?_; rintro e w' ⟨rfl, rfl⟩
  go_wp2_with fail
  refine (H5.out _).mono ?_; rintro e w' ⟨rfl, rfl⟩
  go_wp2_with fail
  refine (H6.out _).mono ?_; rintro e w' ⟨rfl, rfl⟩
  go_wp2
  go_ret
  exact ⟨rfl, Grown.refl _⟩

end Go.Proofs.Ytkoeiimaflbboaa
