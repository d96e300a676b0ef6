/- Spans: the hull of two, and what is cut. -/
import Derived.Test.YtibkllialokdeaaGreatDoorJMbL
set_option linter.unusedVariables false
set_option linter.unusedSimpArgs false
set_option maxRecDepth 100000
set_option maxHeartbeats 40000000
namespace Go.Proofs.YtibkllialokdeaaGreatDoor
open Go.RowKit Go.Proofs.YtibkllialokdeaaGreatDoor.Fl
theorem compare_self (m : Int) : compare m m = .eq := by simp
theorem run_min_float {x y : Nat} {m n : Int} (hx : val x = some m) (hy : val y = some n) :
  ∃ z, val z = some (min m n) ∧ ∀ (ts : Array TypeId) (t : TypeId) (w : World), Sem.run Tryz.prog (Builtin.min_ ts t #[.float .f64 x, .float .f64 y]) w = .ok (.float .f64 z) w := by
 have ho : FloatKind.f64.format.order x y = some (compare m n) := by rw [order_rfl, order_val hx hy]
 rcases Int.lt_trichotomy m n with h | h | h
 ·rw [Int.compare_eq_lt.2 h] at ho
  refine ⟨x, by rw [hx]; congr 1; omega, fun ts t w => ?_⟩
  simp [Builtin.min_, Builtin.min2, ho]
 ·subst h
  rw [compare_self] at ho
  refine ⟨if (FloatKind.f64.decode x).neg then x else y, by split <;> simp [hx, hy], fun ts t w => ?_⟩
  simp [Builtin.min_, Builtin.min2, ho]
 ·rw [Int.compare_eq_gt.2 h] at ho
  refine ⟨y, by rw [hy]; congr 1; omega, fun ts t w => ?_⟩
  simp [Builtin.min_, Builtin.min2, ho]
theorem run_max_float {x y : Nat} {m n : Int} (hx : val x = some m) (hy : val y = some n) :
  ∃ z, val z = some (max m n) ∧ ∀ (ts : Array TypeId) (t : TypeId) (w : World), Sem.run Tryz.prog (Builtin.max_ ts t #[.float .f64 x, .float .f64 y]) w = .ok (.float .f64 z) w := by
 have ho : FloatKind.f64.format.order x y = some (compare m n) := by rw [order_rfl, order_val hx hy]
 rcases Int.lt_trichotomy m n with h | h | h
 ·rw [Int.compare_eq_lt.2 h] at ho
  refine ⟨y, by rw [hy]; congr 1; omega, fun ts t w => ?_⟩
  simp [Builtin.max_, Builtin.max2, ho]
 ·subst h
  rw [compare_self] at ho
  refine ⟨if (FloatKind.f64.decode x).neg then y else x, by split <;> simp [hx, hy], fun ts t w => ?_⟩
  simp [Builtin.max_, Builtin.max2, ho]
 ·rw [Int.compare_eq_gt.2 h] at ho
  refine ⟨x, by rw [hx]; congr 1; omega, fun ts t w => ?_⟩
  simp [Builtin.max_, Builtin.max2, ho]
theorem hull_both (x y a b : Nat) (m n c d : Int) (w : World) (h : sp x y = some (m, n)) (h' : sp a b = some (c, d)) : Calls Tryz.prog 26 #[.complex .f64 x y, .complex .f64 a b] w fun e w' => ∃ p q, e = .returned (.complex .f64 p q) ∧ val p = some (min m c) ∧ val q = some (max n d) ∧ w = w' := by
 obtain ⟨hx, hy, _, _, _⟩ := sp_some h
 obtain ⟨ha, hb, _, _, _⟩ := sp_some h'
 have H1 := Lib.hid (fun w => may_yes x y m n w h)
 have H2 := Lib.hid (fun w => may_yes a b c d w h')
 obtain ⟨p, hp, r1⟩ := run_min_float hx ha
 obtain ⟨q, hq, r2⟩ := run_max_float hy hb
 have HP := Lib.hid hp
 have HQ := Lib.hid hq
 clear hx hy ha hb h h' hp hq
 go_enter Tryz.func26, Tryz.ntmps26
 go_wp2_with fail
 go_step3
 go_wp2_with fail
 refine (H1.out _).mono ?_; rintro e w' ⟨rfl, rfl⟩
 go_wp2_with fail
 refine (H1.out _).mono ?_; rintro e w' ⟨rfl, rfl⟩
 go_wp2_with fail
 refine (H2.out _).mono ?_; rintro e w' ⟨rfl, rfl⟩
 go_wp2
 rw [Exit.noGoto_ret]
 go_ret
 exact ⟨p, q, rfl, HP.out, HQ.out, rfl⟩
end Go.Proofs.YtibkllialokdeaaGreatDoor
namespace Go.Proofs.YtibkllialokdeaaGreatDoor
open Go.RowKit Go.Proofs.YtibkllialokdeaaGreatDoor.Fl
theorem cut_no (t : ByteArray) (x y : Nat) (w : World) (h : sp x y = none) :
  Calls Tryz.prog 37 #[.string t, .complex .f64 x y] w fun e w' => e = .returned (.string ByteArray.empty) ∧ w = w' := by
 have H1 := Lib.hid (fun w => may_no x y w h)
 clear h
 go_enter Tryz.func37, Tryz.ntmps37
 go_wp2_with fail
 refine wp_scope_fwd 0 rfl ?_
 go_wp2_with fail
 refine (H1.out _).mono ?_; rintro e w' ⟨rfl, rfl⟩
 go_wp2
 go_step3
 refine ⟨rfl, ?_⟩
 change Code.wp _ _ _ _ _
 go_wp2
 rw [Exit.noGoto_ret]
 go_ret
 exact ⟨rfl, rfl⟩
theorem cut_in (t : ByteArray) (x y m n : Nat) (w : World) (ht : t.size ≤ maxLen) (h : sp x y = some ((m : Int), (n : Int))) (h1 : m ≤ n) (h2 : n ≤ t.size) :
  Calls Tryz.prog 37 #[.string t, .complex .f64 x y] w fun e w' => e = .returned (.string (t.extract m n)) ∧ w = w' := by
 unfold maxLen at ht
 have H1 := Lib.hid (fun w => may_yes x y m n w h)
 have H2 := Lib.hid (fun w => from_yes x y m n w h)
 have H3 := Lib.hid (fun w => to_yes x y m n w h)
 have c0 : ¬ (t.size : Int) < m := by omega
 have c1 : ¬ (t.size : Int) < n := by omega
 have e1 : min (m : Int) (t.size : Int) = (m : Int) := by omega
 have e2 : min (n : Int) (t.size : Int) = (n : Int) := by omega
 clear h
 go_enter Tryz.func37, Tryz.ntmps37
 go_wp2_with fail
 go_step3
 go_wp2_with fail
 refine (H1.out _).mono ?_; rintro e w' ⟨rfl, rfl⟩
 go_wp2_with fail
 refine (H2.out _).mono ?_; rintro e w' ⟨rfl, rfl⟩
 go_wp2_with fail
 refine (H3.out _).mono ?_; rintro e w' ⟨rfl, rfl⟩
 go_wp2
 rw [Exit.noGoto_ret]
 go_ret
 exact ⟨rfl, rfl⟩
end Go.Proofs.YtibkllialokdeaaGreatDoor
