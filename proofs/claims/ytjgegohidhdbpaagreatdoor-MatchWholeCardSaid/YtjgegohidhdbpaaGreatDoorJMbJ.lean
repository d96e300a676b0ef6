/- The contracts of the span functions, and of the document's own answers: which numbers a span has. -/
import Derived.Test.YtjgegohidhdbpaaGreatDoorJSpanA
import Derived.ScopeJumps
import Derived.Tactics
open Go.Proofs.Tryz
set_option linter.unusedVariables false
set_option linter.unusedSimpArgs false
set_option maxRecDepth 100000
set_option maxHeartbeats 40000000
namespace Go.Proofs.YtjgegohidhdbpaaGreatDoor
open Go.RowKit Go.Proofs.YtjgegohidhdbpaaGreatDoor.Fl
theorem Xl (x y : Nat) (w : World) (h : sp x y = none) : Calls prog 68 #[.complex .f64 x y] w fun e w' => e = .returned (.bool false) ∧ w = w' := by
 by_cases g0 : Ut x 0 = true
 ·by_cases g1 : leB x y = true
  ·by_cases g2 : leB y KQ = true
   ·obtain ⟨u, v, hu, hv, b0, b1, b2⟩ := qgs g0 g1 g2
    have q0 : (FloatKind.f64.format.order x 0 == some .gt || FloatKind.f64.format.order x 0 == some .eq) = true := g0
    have q1 : (FloatKind.f64.format.order x y == some .lt || FloatKind.f64.format.order x y == some .eq) = true := g1
    have q2 : (FloatKind.f64.format.order y 4741671816358002688 == some .lt || FloatKind.f64.format.order y 4741671816358002688 == some .eq) = true := g2
    have bu : u ≤ 999999999 * unit := Int.le_trans b1 b2
    have bv : 0 ≤ v := Int.le_trans b0 b1
    by_cases zu : u % unit = 0
    ·have zv : v % unit ≠ 0 := by
      intro zv
      rw [qjc hu hv b0 b1 b2 zu zv] at h; cases h
     have C1 := fun w => QP x u w hu b0 bu zu
     have C2 := fun w => J8 y v w hv bv b2 zv
     clear hu hv b0 b1 b2 bu bv zu zv g0 g1 g2 h
     have H1 := ξ C1; clear C1
     have H2 := ξ C2; clear C2
     go_enter func68, ntmps68
     go_wp2_with fail
     refine (H1.out _).mono ?_; rintro e w' ⟨rfl, rfl⟩
     go_wp2_with fail
     refine (H2.out _).mono ?_; rintro e w' ⟨rfl, rfl⟩
     go_wp2
     go_ret
     exact ⟨rfl, rfl⟩
    ·have C1 := fun w => J8 x u w hu b0 bu zu
     clear hu hv b0 b1 b2 bu bv zu g0 g1 g2 h
     have H1 := ξ C1; clear C1
     go_enter func68, ntmps68
     go_wp2_with fail
     refine (H1.out _).mono ?_; rintro e w' ⟨rfl, rfl⟩
     go_wp2
     go_ret
     exact ⟨rfl, rfl⟩
   ·have q0 : (FloatKind.f64.format.order x 0 == some .gt || FloatKind.f64.format.order x 0 == some .eq) = true := g0
    have q1 : (FloatKind.f64.format.order x y == some .lt || FloatKind.f64.format.order x y == some .eq) = true := g1
    have q2 : (FloatKind.f64.format.order y 4741671816358002688 == some .lt || FloatKind.f64.format.order y 4741671816358002688 == some .eq) = false := Bool.eq_false_iff.2 g2
    clear g0 g1 g2 h
    go_enter func68, ntmps68
    go_wp2
    go_ret
    exact ⟨rfl, rfl⟩
  ·have q0 : (FloatKind.f64.format.order x 0 == some .gt || FloatKind.f64.format.order x 0 == some .eq) = true := g0
   have q1 : (FloatKind.f64.format.order x y == some .lt || FloatKind.f64.format.order x y == some .eq) = false := Bool.eq_false_iff.2 g1
   clear g0 g1 h
   go_enter func68, ntmps68
   go_wp2
   go_ret
   exact ⟨rfl, rfl⟩
 ·have q0 : (FloatKind.f64.format.order x 0 == some .gt || FloatKind.f64.format.order x 0 == some .eq) = false := Bool.eq_false_iff.2 g0
  clear g0 h
  go_enter func68, ntmps68
  go_wp2
  go_ret
  exact ⟨rfl, rfl⟩
theorem Jq (x y : Nat) (m n : Int) (w : World) (h : sp x y = some (m, n)) : Calls prog 68 #[.complex .f64 x y] w fun e w' => e = .returned (.bool true) ∧ w = w' := by
 obtain ⟨hx, hy, h0, h1, h2⟩ := yj h
 have g0 : Ut x 0 = true := by rw [Jr hx yA]; simpa using h0
 have g1 : leB x y = true := by rw [Qa hx hy]; simpa using h1
 have g2 : leB y KQ = true := by rw [Qa hy Ze]; simpa using h2
 have zu : (m * unit) % (unit : Int) = 0 := Int.mul_emod_left ..
 have zv : (n * unit) % (unit : Int) = 0 := Int.mul_emod_left ..
 have p := Int.le_of_lt qZ
 have C1 := fun w => QP x _ w (kK hx) (Int.mul_nonneg h0 p) (Int.mul_le_mul_of_nonneg_right (Int.le_trans h1 h2) p) zu
 have C2 := fun w => QP y _ w (kK hy) (Int.mul_nonneg (Int.le_trans h0 h1) p) (Int.mul_le_mul_of_nonneg_right h2 p) zv
 have q0 : (FloatKind.f64.format.order x 0 == some .gt || FloatKind.f64.format.order x 0 == some .eq) = true := g0
 have q1 : (FloatKind.f64.format.order x y == some .lt || FloatKind.f64.format.order x y == some .eq) = true := g1
 have q2 : (FloatKind.f64.format.order y 4741671816358002688 == some .lt || FloatKind.f64.format.order y 4741671816358002688 == some .eq) = true := g2
 clear hx hy h0 h1 h2 zu zv p g0 g1 g2 h
 have H1 := ξ C1; clear C1
 have H2 := ξ C2; clear C2
 go_enter func68, ntmps68
 go_wp2_with fail
 refine (H1.out _).mono ?_; rintro e w' ⟨rfl, rfl⟩
 go_wp2_with fail
 refine (H2.out _).mono ?_; rintro e w' ⟨rfl, rfl⟩
 go_wp2
 go_ret
 exact ⟨rfl, rfl⟩
def WT (x : Nat) : Bool := Ut x 0 && (leB x KQ && (val x).isSome)
theorem Yo (x : Nat) (w : World) : Calls prog 111 #[.float .f64 x] w fun e w' => e = .returned (.bool (WT x)) ∧ w = w' := by
 by_cases g0 : Ut x 0 = true
 ·by_cases g1 : leB x KQ = true
  ·obtain ⟨u, hu, b0, b1⟩ := Ga g0 g1
   have hc : ∀ w, Sem.run prog (convert 107 3 (.float .f64 x)) w = .ok (.int .i64 (u / unit)) w :=
    fun w => run_convert_float_int w 107 3 .f64 .i64 x _ (by kernel_rfl) (by kernel_rfl) (Yp hu b0 b1)
   have hlo := Int.ediv_nonneg b0 (Int.le_of_lt qZ)
   have hhi := Int.ediv_le_ediv qZ b1
   rw [Int.mul_ediv_cancel _ (Int.ne_of_gt qZ)] at hhi
   have hy := Zu (u / unit) (by have : (2 : Nat) ^ 53 = 9007199254740992 := rfl; omega)
   have ho := KR hu hy
   generalize hk : floatOfInt .f64 (u / unit) = y at *
   have q0 : (FloatKind.f64.format.order x 0 == some .gt || FloatKind.f64.format.order x 0 == some .eq) = true := g0
   have q1 : (FloatKind.f64.format.order x 4741671816358002688 == some .lt || FloatKind.f64.format.order x 4741671816358002688 == some .eq) = true := g1
   by_cases z : u % unit = 0
   ·have o := ho.1 z
    have hw : WT x = true := by unfold WT; rw [g0, g1]; unfold val; rw [hu]; simp [z]
    have HW := ξ hw
    clear hu b0 b1 hlo hhi hy ho z g0 g1 hw
    go_enter func111, ntmps111
    go_wp2
    go_ret
    rw [HW.out]
    exact ⟨rfl, rfl⟩
   ·have o := ho.2 z
    have hw : WT x = false := by unfold WT; rw [g0, g1]; unfold val; rw [hu]; simp [z]
    have HW := ξ hw
    clear hu b0 b1 hlo hhi hy ho z g0 g1 hw
    go_enter func111, ntmps111
    go_wp2
    go_ret
    rw [HW.out]
    exact ⟨rfl, rfl⟩
  ·have q0 : (FloatKind.f64.format.order x 0 == some .gt || FloatKind.f64.format.order x 0 == some .eq) = true := g0
   have q1 : (FloatKind.f64.format.order x 4741671816358002688 == some .lt || FloatKind.f64.format.order x 4741671816358002688 == some .eq) = false := Bool.eq_false_iff.2 g1
   have hw : WT x = false := by unfold WT; rw [g0, Bool.eq_false_iff.2 g1]; rfl
   have HW := ξ hw
   clear g0 g1 hw
   go_enter func111, ntmps111
   go_wp2
   go_ret
   rw [HW.out]
   exact ⟨rfl, rfl⟩
 ·have q0 : (FloatKind.f64.format.order x 0 == some .gt || FloatKind.f64.format.order x 0 == some .eq) = false := Bool.eq_false_iff.2 g0
  have hw : WT x = false := by unfold WT; rw [Bool.eq_false_iff.2 g0]; rfl
  have HW := ξ hw
  clear g0 hw
  go_enter func111, ntmps111
  go_wp2
  go_ret
  rw [HW.out]
  exact ⟨rfl, rfl⟩
theorem qje (x y : Nat) : (sp x y).isSome = (WT x && (WT y && leB x y)) := by
 cases hs : sp x y with
 | some q =>
  obtain ⟨m, n⟩ := q
  obtain ⟨hx, hy, h0, h1, h2⟩ := yj hs
  unfold WT
  rw [Jr hx yA, Qa hx Ze, Jr hy yA, Qa hy Ze, Qa hx hy, hx, hy]
  have a1 : m ≤ 999999999 := by omega
  have a2 : 0 ≤ n := by omega
  simp [h0, h1, h2, a1, a2]
 | none =>
  symm
  show (WT x && (WT y && leB x y)) = false
  rw [Bool.eq_false_iff]
  intro hh
  simp only [Bool.and_eq_true] at hh
  obtain ⟨h1, h2, h3⟩ := hh
  unfold WT at h1 h2
  simp only [Bool.and_eq_true, Option.isSome_iff_exists] at h1 h2
  obtain ⟨a1, a2, m, hx⟩ := h1
  obtain ⟨b1, b2, n, hy⟩ := h2
  rw [Jr hx yA] at a1
  rw [Qa hy Ze] at b2
  rw [Qa hx hy] at h3
  rw [JM hx hy (by simpa using a1) (by simpa using h3) (by simpa using b2)] at hs
  cases hs
theorem qbb (x y : Nat) (w : World) : Calls prog 70 #[.complex .f64 x y] w fun e w' => e = .returned (.bool (sp x y).isSome) ∧ w = w' := by
 have hs := qje x y
 have C1 := fun w => Yo x w
 have C2 := fun w => Yo y w
 cases hx : WT x with
 | false =>
  rw [hx] at hs C1
  have HS := ξ hs
  have H1 := ξ C1; clear C1 C2 hs hx
  go_enter func70, ntmps70
  go_wp2_with fail
  refine (H1.out _).mono ?_; rintro e w' ⟨rfl, rfl⟩
  go_wp2
  go_ret
  rw [HS.out]
  exact ⟨rfl, rfl⟩
 | true =>
  cases hy : WT y with
  | false =>
   rw [hx, hy] at hs
   rw [hx] at C1
   rw [hy] at C2
   have HS := ξ hs
   have H1 := ξ C1; have H2 := ξ C2; clear C1 C2 hs hx hy
   go_enter func70, ntmps70
   go_wp2_with fail
   refine (H1.out _).mono ?_; rintro e w' ⟨rfl, rfl⟩
   go_wp2_with fail
   refine (H2.out _).mono ?_; rintro e w' ⟨rfl, rfl⟩
   go_wp2
   go_ret
   rw [HS.out]
   exact ⟨rfl, rfl⟩
  | true =>
   rw [hx, hy] at hs
   rw [hx] at C1
   rw [hy] at C2
   have HS := ξ hs
   have H1 := ξ C1; have H2 := ξ C2; clear C1 C2 hs hx hy
   go_enter func70, ntmps70
   go_wp2_with fail
   refine (H1.out _).mono ?_; rintro e w' ⟨rfl, rfl⟩
   go_wp2_with fail
   refine (H2.out _).mono ?_; rintro e w' ⟨rfl, rfl⟩
   go_wp2
   all_goals (go_ret; rw [HS.out]; first | exact ⟨rfl, rfl⟩ | simp [leB])
end Go.Proofs.YtjgegohidhdbpaaGreatDoor
namespace Go.Proofs.YtjgegohidhdbpaaGreatDoor
theorem yY {P : Program} {a : Act} {w : World} {Q : Exit → Act → World → Prop} {c rest : Code} (l : Nat) (hf : findLabel c l = some rest)
  (first : c.wp P (Exit.jump l (fun a w => rest.wp P (Exit.noGoto Q) a w) Q) a w) : (Code.scope c).wp P Q a w := by
 refine wp_scope_jumps l (fun a w => rest.wp P (Exit.noGoto Q) a w) (fun _ _ => 0) hf first ?_
 intro a w h
 refine Code.wp_mono ?_ h
 intro e a w hq
 cases e <;> first | exact hq | exact False.elim hq
open Go.Proofs.YtjgegohidhdbpaaGreatDoor.Fl Go.RowKit
theorem Z9 {x : Nat} {m : Int} (h : val x = some m) (h0 : 0 ≤ m) (h1 : m ≤ 999999999) :
  ∀ w, Sem.run prog (convert 107 3 (.float .f64 x)) w = .ok (.int .i64 m) w := by
 intro w
 have p := Int.le_of_lt qZ
 have ht := Yp (kK h) (Int.mul_nonneg h0 p) (Int.mul_le_mul_of_nonneg_right h1 p)
 rw [Int.mul_ediv_cancel _ (Int.ne_of_gt qZ)] at ht
 exact run_convert_float_int w 107 3 .f64 .i64 x _ (by kernel_rfl) (by kernel_rfl) ht
theorem J3 (x y : Nat) (m n : Int) (w : World) (h : sp x y = some (m, n)) : Calls prog 46 #[.complex .f64 x y] w fun e w' => e = .returned (.int .i64 m) ∧ w = w' := by
 obtain ⟨hx, hy, h0, h1, h2⟩ := yj h
 have hc := Z9 hx h0 (Int.le_trans h1 h2)
 have C1 := fun w => Jq x y m n w h
 have H1 := ξ C1; clear C1 hx hy h0 h1 h2 h
 go_enter func46, ntmps46
 go_wp2_with fail
 go_step3
 go_wp2_with fail
 refine (H1.out _).mono ?_; rintro e w' ⟨rfl, rfl⟩
 go_wp2
 rw [Exit.noGoto_ret]
 go_ret
 exact ⟨rfl, rfl⟩
theorem qat (x y : Nat) (w : World) (h : sp x y = none) : Calls prog 46 #[.complex .f64 x y] w fun e w' => e = .returned (.int .i64 (-1)) ∧ w = w' := by
 have C1 := fun w => Xl x y w h
 have H1 := ξ C1; clear C1 h
 go_enter func46, ntmps46
 go_wp2_with fail
 refine yY 0 rfl ?_
 go_wp2_with fail
 refine (H1.out _).mono ?_; rintro e w' ⟨rfl, rfl⟩
 go_wp2
 go_step3
 refine ⟨rfl, ?_⟩
 change Code.wp _ _ _ _ _
 go_wp2
 rw [Exit.noGoto_ret]
 go_ret
 exact ⟨rfl, rfl⟩
theorem U5 (x y : Nat) (m n : Int) (w : World) (h : sp x y = some (m, n)) : Calls prog 69 #[.complex .f64 x y] w fun e w' => e = .returned (.int .i64 n) ∧ w = w' := by
 obtain ⟨hx, hy, h0, h1, h2⟩ := yj h
 have hc := Z9 hy (Int.le_trans h0 h1) h2
 have C1 := fun w => Jq x y m n w h
 have H1 := ξ C1; clear C1 hx hy h0 h1 h2 h
 go_enter func69, ntmps69
 go_wp2_with fail
 go_step3
 go_wp2_with fail
 refine (H1.out _).mono ?_; rintro e w' ⟨rfl, rfl⟩
 go_wp2
 rw [Exit.noGoto_ret]
 go_ret
 exact ⟨rfl, rfl⟩
theorem qhr (x y : Nat) (w : World) (h : sp x y = none) : Calls prog 69 #[.complex .f64 x y] w fun e w' => e = .returned (.int .i64 (-1)) ∧ w = w' := by
 have C1 := fun w => Xl x y w h
 have H1 := ξ C1; clear C1 h
 go_enter func69, ntmps69
 go_wp2_with fail
 refine yY 0 rfl ?_
 go_wp2_with fail
 refine (H1.out _).mono ?_; rintro e w' ⟨rfl, rfl⟩
 go_wp2
 go_step3
 refine ⟨rfl, ?_⟩
 change Code.wp _ _ _ _ _
 go_wp2
 rw [Exit.noGoto_ret]
 go_ret
 exact ⟨rfl, rfl⟩
theorem qbq (x y : Nat) (m n : Int) (w : World) (h : sp x y = some (m, n)) : Calls prog 51 #[.complex .f64 x y] w fun e w' => e = .returned (.int .i64 m) ∧ w = w' := by
 obtain ⟨hx, hy, h0, h1, h2⟩ := yj h
 have hc := Z9 hx h0 (Int.le_trans h1 h2)
 have C1 := fun w => qbb x y w
 rw [h] at C1
 have H1 := ξ C1; clear C1 hx hy h0 h1 h2 h
 go_enter func51, ntmps51
 go_wp2_with fail
 refine (H1.out _).mono ?_; rintro e w' ⟨rfl, rfl⟩
 go_wp2
 go_ret
 exact ⟨rfl, rfl⟩
theorem qgp (x y : Nat) (m n : Int) (w : World) (h : sp x y = some (m, n)) : Calls prog 49 #[.complex .f64 x y] w fun e w' => e = .returned (.int .i64 n) ∧ w = w' := by
 obtain ⟨hx, hy, h0, h1, h2⟩ := yj h
 have hc := Z9 hy (Int.le_trans h0 h1) h2
 have C1 := fun w => qbb x y w
 rw [h] at C1
 have H1 := ξ C1; clear C1 hx hy h0 h1 h2 h
 go_enter func49, ntmps49
 go_wp2_with fail
 refine (H1.out _).mono ?_; rintro e w' ⟨rfl, rfl⟩
 go_wp2
 go_ret
 exact ⟨rfl, rfl⟩
theorem qgu (x y : Nat) (m n : Int) (w : World) (h : sp x y = some (m, n)) : Calls prog 167 #[.complex .f64 x y] w fun e w' => e = .returned (.int .i64 (n - m)) ∧ w = w' := by
 obtain ⟨_, _, h0, h1, h2⟩ := yj h
 have H1 := ξ (fun w => U5 x y m n w h)
 have H2 := ξ (fun w => J3 x y m n w h)
 clear h
 have b0 : 0 ≤ n := Int.le_trans h0 h1
 have b1 : m ≤ 999999999 := Int.le_trans h1 h2
 go_enter func167, ntmps167
 go_wp2_with fail
 refine (H1.out _).mono ?_; rintro e w' ⟨rfl, rfl⟩
 go_wp2_with fail
 refine (H2.out _).mono ?_; rintro e w' ⟨rfl, rfl⟩
 go_wp2
 go_ret
 exact ⟨rfl, rfl⟩
theorem qjf (x y : Nat) (w : World) (h : sp x y = none) : Calls prog 167 #[.complex .f64 x y] w fun e w' => e = .returned (.int .i64 0) ∧ w = w' := by
 have H1 := ξ (fun w => qhr x y w h)
 have H2 := ξ (fun w => qat x y w h)
 clear h
 go_enter func167, ntmps167
 go_wp2_with fail
 refine (H1.out _).mono ?_; rintro e w' ⟨rfl, rfl⟩
 go_wp2_with fail
 refine (H2.out _).mono ?_; rintro e w' ⟨rfl, rfl⟩
 go_wp2
 go_ret
 exact ⟨rfl, rfl⟩
theorem qd2 (a b : Int) (w : World) (h0 : 0 ≤ a) (h1 : a ≤ b) (h2 : b ≤ 999999999) :
  Calls prog 63 #[.int .i64 a, .int .i64 b] w fun e w' => e = .returned (.tuple #[.complex .f64 (floatOfInt .f64 a) (floatOfInt .f64 b), .bool true]) ∧ w = w' := by
 have q0 : ¬ a < 0 := by omega
 have q1 : ¬ b < a := by omega
 have q2 : ¬ 999999999 < b := by omega
 go_enter func63, ntmps63
 go_wp2_with fail
 go_step3
 go_wp2
 rw [Exit.noGoto_ret]
 go_ret2
 exact ⟨rfl, rfl⟩
theorem qaf (a b : Int) (w : World) (h0 : 0 ≤ a) (h1 : a ≤ b) (h2 : b ≤ 999999999) :
  Calls prog 67 #[.int .i64 a, .int .i64 b] w fun e w' => e = .returned (.tuple #[.complex .f64 (floatOfInt .f64 a) (floatOfInt .f64 b), .bool true]) ∧ w = w' := by
 have q0 : ¬ a < 0 := by omega
 have q1 : ¬ b < a := by omega
 have q2 : ¬ 999999999 < b := by omega
 go_enter func67, ntmps67
 go_wp2
 go_ret2
 exact ⟨rfl, rfl⟩
end Go.Proofs.YtjgegohidhdbpaaGreatDoor
namespace Go.Proofs.YtjgegohidhdbpaaGreatDoor
open Go.RowKit
def qj : Option (Nat × Nat) → Value
 | some (a, b) => .complex .f64 (floatOfInt .f64 (a : Int)) (floatOfInt .f64 (b : Int))
 | none => .complex .f64 qf qf
def qk (c : Cp) : Value := .agg #[qj (c 0), qj (c 1), qj (c 2), qj (c 3), qj (c 4), qj (c 5), qj (c 6), qj (c 7), qj (c 8), qj (c 9)]
@[go_sem] theorem qaw (P : Program) (w : World) (a : Addr) (m : Mode) (x y : Nat) : (store a (.complex .f64 x y) m).run P w = stored P w a (.complex .f64 x y) m := run_store P w a _ m rfl
@[go_sem] theorem qe2 (P : Program) (w : World) (a : Addr) (m : Mode) (o : Option (Nat × Nat)) : (store a (qj o) m).run P w = stored P w a (qj o) m := run_store P w a _ m (by cases o <;> rfl)
structure qm (w : World) (b n : Nat) (t : TypeId) (V : Nat → Value) : Prop where
 heap : w.heap[b]? = some (.cells ((List.range n).map V).toArray t (0, 0))
section
variable {w : World} {b n : Nat} {t : TypeId} {V : Nat → Value}
theorem qm.lt (h : qm w b n t V) : b < w.heap.size := (Array.getElem?_eq_some_iff.1 h.heap).1
theorem qm.cell (h : qm w b n t V) (j : Nat) (hj : j < n) : w.cell? ⟨b, j, none⟩ = some (V j) := by simp [World.cell?, h.heap, hj]
theorem qm.fz (h : qm w b n t V) (j : Nat) : w.frozen? ⟨b, j, none⟩ = false := by simp [World.frozen?, h.heap]
theorem qm.below {B : Nat} {w' : World} (h : qm w b n t V) (hB : Below B w w') (hb : b < B) : qm w' b n t V := ⟨(hB.block b hb).trans h.heap⟩
theorem qm.drew (h : qm w b n t V) : qm w.drew b n t V := ⟨h.heap⟩
theorem qm.set (h : qm w b n t V) (j : Nat) (v : Value) : qm (w.setCell ⟨b, j, none⟩ v) b n t (fun i => if i = j then v else V i) := by
 refine ⟨?_⟩
 rw [heap_setCell_same _ b j _ _ _ h.heap]
 congr 2
 apply Array.ext_getElem?
 intro i
 rw [Array.getElem?_setIfInBounds]
 by_cases hi : i < n
 ·by_cases e : j = i
  ·subst e; simp [hi]
  ·have e' : ¬ i = j := fun h => e h.symm
   simp [e, e', hi]
 ·by_cases e : j = i
  ·subst e; simp [hi]
  ·simp [e, hi]
end
abbrev cH (f : Cp) : Array Value := #[qj (f 0), qj (f 1), qj (f 2), qj (f 3), qj (f 4), qj (f 5), qj (f 6), qj (f 7), qj (f 8), qj (f 9)]
abbrev sC1 (w : World) (b : Nat) (Z : Cp) : World := w.setCell ⟨b, 0, none⟩ (qj (Z 0))
abbrev sC2 (w : World) (b : Nat) (Z : Cp) : World := (w.setCell ⟨b, 0, none⟩ (qj (Z 0))).setCell ⟨b, 1, none⟩ (qj (Z 1))
abbrev sC3 (w : World) (b : Nat) (Z : Cp) : World := ((w.setCell ⟨b, 0, none⟩ (qj (Z 0))).setCell ⟨b, 1, none⟩ (qj (Z 1))).setCell ⟨b, 2, none⟩ (qj (Z 2))
abbrev sC4 (w : World) (b : Nat) (Z : Cp) : World := (((w.setCell ⟨b, 0, none⟩ (qj (Z 0))).setCell ⟨b, 1, none⟩ (qj (Z 1))).setCell ⟨b, 2, none⟩ (qj (Z 2))).setCell ⟨b, 3, none⟩ (qj (Z 3))
abbrev sC5 (w : World) (b : Nat) (Z : Cp) : World := ((((w.setCell ⟨b, 0, none⟩ (qj (Z 0))).setCell ⟨b, 1, none⟩ (qj (Z 1))).setCell ⟨b, 2, none⟩ (qj (Z 2))).setCell ⟨b, 3, none⟩ (qj (Z 3))).setCell ⟨b, 4, none⟩ (qj (Z 4))
abbrev sC6 (w : World) (b : Nat) (Z : Cp) : World := (((((w.setCell ⟨b, 0, none⟩ (qj (Z 0))).setCell ⟨b, 1, none⟩ (qj (Z 1))).setCell ⟨b, 2, none⟩ (qj (Z 2))).setCell ⟨b, 3, none⟩ (qj (Z 3))).setCell ⟨b, 4, none⟩ (qj (Z 4))).setCell ⟨b, 5, none⟩ (qj (Z 5))
abbrev sC7 (w : World) (b : Nat) (Z : Cp) : World := ((((((w.setCell ⟨b, 0, none⟩ (qj (Z 0))).setCell ⟨b, 1, none⟩ (qj (Z 1))).setCell ⟨b, 2, none⟩ (qj (Z 2))).setCell ⟨b, 3, none⟩ (qj (Z 3))).setCell ⟨b, 4, none⟩ (qj (Z 4))).setCell ⟨b, 5, none⟩ (qj (Z 5))).setCell ⟨b, 6, none⟩ (qj (Z 6))
abbrev sC8 (w : World) (b : Nat) (Z : Cp) : World := (((((((w.setCell ⟨b, 0, none⟩ (qj (Z 0))).setCell ⟨b, 1, none⟩ (qj (Z 1))).setCell ⟨b, 2, none⟩ (qj (Z 2))).setCell ⟨b, 3, none⟩ (qj (Z 3))).setCell ⟨b, 4, none⟩ (qj (Z 4))).setCell ⟨b, 5, none⟩ (qj (Z 5))).setCell ⟨b, 6, none⟩ (qj (Z 6))).setCell ⟨b, 7, none⟩ (qj (Z 7))
abbrev sC9 (w : World) (b : Nat) (Z : Cp) : World := ((((((((w.setCell ⟨b, 0, none⟩ (qj (Z 0))).setCell ⟨b, 1, none⟩ (qj (Z 1))).setCell ⟨b, 2, none⟩ (qj (Z 2))).setCell ⟨b, 3, none⟩ (qj (Z 3))).setCell ⟨b, 4, none⟩ (qj (Z 4))).setCell ⟨b, 5, none⟩ (qj (Z 5))).setCell ⟨b, 6, none⟩ (qj (Z 6))).setCell ⟨b, 7, none⟩ (qj (Z 7))).setCell ⟨b, 8, none⟩ (qj (Z 8))
abbrev UV (w : World) (b : Nat) (Z : Cp) : World := (((((((((w.setCell ⟨b, 0, none⟩ (qj (Z 0))).setCell ⟨b, 1, none⟩ (qj (Z 1))).setCell ⟨b, 2, none⟩ (qj (Z 2))).setCell ⟨b, 3, none⟩ (qj (Z 3))).setCell ⟨b, 4, none⟩ (qj (Z 4))).setCell ⟨b, 5, none⟩ (qj (Z 5))).setCell ⟨b, 6, none⟩ (qj (Z 6))).setCell ⟨b, 7, none⟩ (qj (Z 7))).setCell ⟨b, 8, none⟩ (qj (Z 8))).setCell ⟨b, 9, none⟩ (qj (Z 9))
theorem qm.ten {w : World} {b : Nat} {t : TypeId} {V : Nat → Value} (h : qm w b 10 t V) : w.cell? ⟨b, 0, none⟩ = some (V 0) ∧ w.cell? ⟨b, 1, none⟩ = some (V 1) ∧ w.cell? ⟨b, 2, none⟩ = some (V 2) ∧ w.cell? ⟨b, 3, none⟩ = some (V 3) ∧ w.cell? ⟨b, 4, none⟩ = some (V 4) ∧ w.cell? ⟨b, 5, none⟩ = some (V 5) ∧ w.cell? ⟨b, 6, none⟩ = some (V 6) ∧ w.cell? ⟨b, 7, none⟩ = some (V 7) ∧ w.cell? ⟨b, 8, none⟩ = some (V 8) ∧ w.cell? ⟨b, 9, none⟩ = some (V 9) := ⟨h.cell 0 (by decide), h.cell 1 (by decide), h.cell 2 (by decide), h.cell 3 (by decide), h.cell 4 (by decide), h.cell 5 (by decide), h.cell 6 (by decide), h.cell 7 (by decide), h.cell 8 (by decide), h.cell 9 (by decide)⟩
theorem qm.rf10 {w : World} {b : Nat} {t : TypeId} {V : Nat → Value} (h : qm w b 10 t V) : w.cell? ⟨b, 0, none⟩ = some (V 0) ∧ w.cell? ⟨b, 1, none⟩ = some (V 1) ∧ w.cell? ⟨b, 2, none⟩ = some (V 2) ∧ w.cell? ⟨b, 3, none⟩ = some (V 3) ∧ w.cell? ⟨b, 4, none⟩ = some (V 4) ∧ w.cell? ⟨b, 5, none⟩ = some (V 5) ∧ w.cell? ⟨b, 6, none⟩ = some (V 6) ∧ w.cell? ⟨b, 7, none⟩ = some (V 7) ∧ w.cell? ⟨b, 8, none⟩ = some (V 8) ∧ w.cell? ⟨b, 9, none⟩ = some (V 9) ∧ w.frozen? ⟨b, 0, none⟩ = false ∧ w.frozen? ⟨b, 1, none⟩ = false ∧ w.frozen? ⟨b, 2, none⟩ = false ∧ w.frozen? ⟨b, 3, none⟩ = false ∧ w.frozen? ⟨b, 4, none⟩ = false ∧ w.frozen? ⟨b, 5, none⟩ = false ∧ w.frozen? ⟨b, 6, none⟩ = false ∧ w.frozen? ⟨b, 7, none⟩ = false ∧ w.frozen? ⟨b, 8, none⟩ = false ∧ w.frozen? ⟨b, 9, none⟩ = false := ⟨h.cell 0 (by decide), h.cell 1 (by decide), h.cell 2 (by decide), h.cell 3 (by decide), h.cell 4 (by decide), h.cell 5 (by decide), h.cell 6 (by decide), h.cell 7 (by decide), h.cell 8 (by decide), h.cell 9 (by decide), h.fz 0, h.fz 1, h.fz 2, h.fz 3, h.fz 4, h.fz 5, h.fz 6, h.fz 7, h.fz 8, h.fz 9⟩
theorem qV {w : World} {b : Nat} {t : TypeId} {V : Nat → Value} (h : qm w b 10 t V) (Z : Cp) : (w.setCell ⟨b, 0, none⟩ (qj (Z 0))).cell? ⟨b, 0, none⟩ = some (qj (Z 0)) ∧ ((w.setCell ⟨b, 0, none⟩ (qj (Z 0))).setCell ⟨b, 1, none⟩ (qj (Z 1))).cell? ⟨b, 1, none⟩ = some (qj (Z 1)) ∧ (((w.setCell ⟨b, 0, none⟩ (qj (Z 0))).setCell ⟨b, 1, none⟩ (qj (Z 1))).setCell ⟨b, 2, none⟩ (qj (Z 2))).cell? ⟨b, 2, none⟩ = some (qj (Z 2)) ∧ ((((w.setCell ⟨b, 0, none⟩ (qj (Z 0))).setCell ⟨b, 1, none⟩ (qj (Z 1))).setCell ⟨b, 2, none⟩ (qj (Z 2))).setCell ⟨b, 3, none⟩ (qj (Z 3))).cell? ⟨b, 3, none⟩ = some (qj (Z 3)) ∧ (((((w.setCell ⟨b, 0, none⟩ (qj (Z 0))).setCell ⟨b, 1, none⟩ (qj (Z 1))).setCell ⟨b, 2, none⟩ (qj (Z 2))).setCell ⟨b, 3, none⟩ (qj (Z 3))).setCell ⟨b, 4, none⟩ (qj (Z 4))).cell? ⟨b, 4, none⟩ = some (qj (Z 4)) ∧ ((((((w.setCell ⟨b, 0, none⟩ (qj (Z 0))).setCell ⟨b, 1, none⟩ (qj (Z 1))).setCell ⟨b, 2, none⟩ (qj (Z 2))).setCell ⟨b, 3, none⟩ (qj (Z 3))).setCell ⟨b, 4, none⟩ (qj (Z 4))).setCell ⟨b, 5, none⟩ (qj (Z 5))).cell? ⟨b, 5, none⟩ = some (qj (Z 5)) ∧ (((((((w.setCell ⟨b, 0, none⟩ (qj (Z 0))).setCell ⟨b, 1, none⟩ (qj (Z 1))).setCell ⟨b, 2, none⟩ (qj (Z 2))).setCell ⟨b, 3, none⟩ (qj (Z 3))).setCell ⟨b, 4, none⟩ (qj (Z 4))).setCell ⟨b, 5, none⟩ (qj (Z 5))).setCell ⟨b, 6, none⟩ (qj (Z 6))).cell? ⟨b, 6, none⟩ = some (qj (Z 6)) ∧ ((((((((w.setCell ⟨b, 0, none⟩ (qj (Z 0))).setCell ⟨b, 1, none⟩ (qj (Z 1))).setCell ⟨b, 2, none⟩ (qj (Z 2))).setCell ⟨b, 3, none⟩ (qj (Z 3))).setCell ⟨b, 4, none⟩ (qj (Z 4))).setCell ⟨b, 5, none⟩ (qj (Z 5))).setCell ⟨b, 6, none⟩ (qj (Z 6))).setCell ⟨b, 7, none⟩ (qj (Z 7))).cell? ⟨b, 7, none⟩ = some (qj (Z 7)) ∧ (((((((((w.setCell ⟨b, 0, none⟩ (qj (Z 0))).setCell ⟨b, 1, none⟩ (qj (Z 1))).setCell ⟨b, 2, none⟩ (qj (Z 2))).setCell ⟨b, 3, none⟩ (qj (Z 3))).setCell ⟨b, 4, none⟩ (qj (Z 4))).setCell ⟨b, 5, none⟩ (qj (Z 5))).setCell ⟨b, 6, none⟩ (qj (Z 6))).setCell ⟨b, 7, none⟩ (qj (Z 7))).setCell ⟨b, 8, none⟩ (qj (Z 8))).cell? ⟨b, 8, none⟩ = some (qj (Z 8)) ∧ ((((((((((w.setCell ⟨b, 0, none⟩ (qj (Z 0))).setCell ⟨b, 1, none⟩ (qj (Z 1))).setCell ⟨b, 2, none⟩ (qj (Z 2))).setCell ⟨b, 3, none⟩ (qj (Z 3))).setCell ⟨b, 4, none⟩ (qj (Z 4))).setCell ⟨b, 5, none⟩ (qj (Z 5))).setCell ⟨b, 6, none⟩ (qj (Z 6))).setCell ⟨b, 7, none⟩ (qj (Z 7))).setCell ⟨b, 8, none⟩ (qj (Z 8))).setCell ⟨b, 9, none⟩ (qj (Z 9))).cell? ⟨b, 9, none⟩ = some (qj (Z 9)) := by
 have v0 := h.set 0 (qj (Z 0))
 have v1 := v0.set 1 (qj (Z 1))
 have v2 := v1.set 2 (qj (Z 2))
 have v3 := v2.set 3 (qj (Z 3))
 have v4 := v3.set 4 (qj (Z 4))
 have v5 := v4.set 5 (qj (Z 5))
 have v6 := v5.set 6 (qj (Z 6))
 have v7 := v6.set 7 (qj (Z 7))
 have v8 := v7.set 8 (qj (Z 8))
 have v9 := v8.set 9 (qj (Z 9))
 refine ⟨?_, ?_, ?_, ?_, ?_, ?_, ?_, ?_, ?_, ?_⟩
 ·rw [v0.cell 0 (by decide)]; simp
 ·rw [v1.cell 1 (by decide)]; simp
 ·rw [v2.cell 2 (by decide)]; simp
 ·rw [v3.cell 3 (by decide)]; simp
 ·rw [v4.cell 4 (by decide)]; simp
 ·rw [v5.cell 5 (by decide)]; simp
 ·rw [v6.cell 6 (by decide)]; simp
 ·rw [v7.cell 7 (by decide)]; simp
 ·rw [v8.cell 8 (by decide)]; simp
 ·rw [v9.cell 9 (by decide)]; simp
theorem kn {w : World} {b : Nat} (Z : Cp) : qb (fun i => i = b) w ((((((((((w.setCell ⟨b, 0, none⟩ (qj (Z 0))).setCell ⟨b, 1, none⟩ (qj (Z 1))).setCell ⟨b, 2, none⟩ (qj (Z 2))).setCell ⟨b, 3, none⟩ (qj (Z 3))).setCell ⟨b, 4, none⟩ (qj (Z 4))).setCell ⟨b, 5, none⟩ (qj (Z 5))).setCell ⟨b, 6, none⟩ (qj (Z 6))).setCell ⟨b, 7, none⟩ (qj (Z 7))).setCell ⟨b, 8, none⟩ (qj (Z 8))).setCell ⟨b, 9, none⟩ (qj (Z 9))) := ((((((((((qb.refl (fun i => i = b) w).setCell (p := ⟨b, 0, none⟩) rfl (qj (Z 0))).setCell (p := ⟨b, 1, none⟩) rfl (qj (Z 1))).setCell (p := ⟨b, 2, none⟩) rfl (qj (Z 2))).setCell (p := ⟨b, 3, none⟩) rfl (qj (Z 3))).setCell (p := ⟨b, 4, none⟩) rfl (qj (Z 4))).setCell (p := ⟨b, 5, none⟩) rfl (qj (Z 5))).setCell (p := ⟨b, 6, none⟩) rfl (qj (Z 6))).setCell (p := ⟨b, 7, none⟩) rfl (qj (Z 7))).setCell (p := ⟨b, 8, none⟩) rfl (qj (Z 8))).setCell (p := ⟨b, 9, none⟩) rfl (qj (Z 9))
theorem qm.new (w : World) (n : Nat) (t : TypeId) (V : Nat → Value) : qm (w.alloc (.cells ((List.range n).map V).toArray t)) w.heap.size n t V := ⟨by show (w.heap.push _)[w.heap.size]? = _; simp⟩
theorem yS (w : World) : Calls prog 14 #[] w fun e w' => e = .returned (qk fun _ => none) ∧ Below w.heap.size w w' := by
 have HN := ξ (fun w => Ym w)
 go_enter func14, ntmps14
 go_wp2
 have ht : (10 : Nat) = 10 := rfl
 obtain ⟨Z, hZ⟩ : ∃ Z : Value, Z = .complex .f64 0 0 := ⟨_, rfl⟩
 go_loopw [3] (fun i wr => ∃ k : Nat, k ≤ 10 ∧ i = .int .i64 k ∧ qm wr w.heap.size 10 27 (fun _ => .complex .f64 0 0) ∧ qm wr (w.heap.size + 1) 10 27 (fun i => if i < k then .complex .f64 qf qf else .complex .f64 0 0) ∧ Below w.heap.size w wr) (fun i _ => 10 - (RowKit.intOf i).toNat)
 case atStart =>
  refine ⟨0, by omega, rfl, ?_, ?_, ((Below.refl _ w).alloc (Nat.le_refl _) _).alloc (by simp) _⟩
  ·exact (qm.new w 10 27 (fun _ => .complex .f64 0 0)).below (B := w.heap.size + 1) (by
    have := (Below.refl (w.heap.size + 1) (w.alloc (.cells ((List.range 10).map fun _ => Value.complex .f64 0 0).toArray 27))).alloc (by simp) (.cells ((List.range 10).map fun _ => Value.complex .f64 0 0).toArray 27)
    exact this) (by omega)
  ·have := qm.new (w.alloc (.cells ((List.range 10).map fun _ => Value.complex .f64 0 0).toArray 27)) 10 27 (fun i => if i < 0 then .complex .f64 qf qf else .complex .f64 0 0)
   rw [World.size_alloc] at this
   exact this
 case round =>
  obtain ⟨k, hk, rfl, hr, hc, hB⟩ := hrel
  have lB := hB.size
  by_cases zb : k < 10
  ·have c0 : wr.cell? ⟨w.heap.size + 1, k, none⟩ = some (.complex .f64 0 0) := by rw [hc.cell k zb]; simp
   have z0 := hc.fz k
   have hs := hc.set k (.complex .f64 qf qf)
   have e : (fun i => if i = k then Value.complex .f64 qf qf else (if i < k then .complex .f64 qf qf else .complex .f64 0 0)) = (fun i => if i < k + 1 then Value.complex .f64 qf qf else .complex .f64 0 0) := by
    funext i
    by_cases e1 : i = k
    ·subst e1; simp
    ·have : (i < k + 1) ↔ (i < k) := by omega
     simp [e1, this]
   rw [e] at hs
   have HS := ξ hs
   have HR := ξ (qm.mk ((Below.heap_setCell wr ⟨w.heap.size + 1, k, none⟩ (.complex .f64 qf qf) w.heap.size (by simp)).trans hr.heap) : qm (wr.setCell ⟨w.heap.size + 1, k, none⟩ (.complex .f64 qf qf)) w.heap.size 10 27 (fun _ => .complex .f64 0 0))
   have HB := ξ (hB.setCell (p := ⟨w.heap.size + 1, k, none⟩) (by simp) (.complex .f64 qf qf))
   clear hs e
   go_wp2_with fail
   refine (HN.out _).mono ?_
   rintro e v2 ⟨rfl, rfl⟩
   go_wp2
   go_roundw
   case rel => exact ⟨k + 1, by omega, by simp, HR.out, HS.out, HB.out⟩
   case measure => (simp [RowKit.intOf]) <;> omega
  ·obtain rfl : k = 10 := by omega
   have r_ := hr.ten
   obtain ⟨c0, c1, c2, c3, c4, c5, c6, c7, c8, c9⟩ := hc.ten
   have f0 := hr.fz 0
   have f1 := hr.fz 1
   have f2 := hr.fz 2
   have f3 := hr.fz 3
   have f4 := hr.fz 4
   have f5 := hr.fz 5
   have f6 := hr.fz 6
   have f7 := hr.fz 7
   have f8 := hr.fz 8
   have f9 := hr.fz 9
   simp only [Nat.reduceLT, if_true] at c0 c1 c2 c3 c4 c5 c6 c7 c8 c9
   have HB := ξ ((((((((((hB.setCell (p := ⟨w.heap.size, 0, none⟩) (Nat.le_refl _) (.complex .f64 qf qf)).setCell (p := ⟨w.heap.size, 1, none⟩) (Nat.le_refl _) (.complex .f64 qf qf)).setCell (p := ⟨w.heap.size, 2, none⟩) (Nat.le_refl _) (.complex .f64 qf qf)).setCell (p := ⟨w.heap.size, 3, none⟩) (Nat.le_refl _) (.complex .f64 qf qf)).setCell (p := ⟨w.heap.size, 4, none⟩) (Nat.le_refl _) (.complex .f64 qf qf)).setCell (p := ⟨w.heap.size, 5, none⟩) (Nat.le_refl _) (.complex .f64 qf qf)).setCell (p := ⟨w.heap.size, 6, none⟩) (Nat.le_refl _) (.complex .f64 qf qf)).setCell (p := ⟨w.heap.size, 7, none⟩) (Nat.le_refl _) (.complex .f64 qf qf)).setCell (p := ⟨w.heap.size, 8, none⟩) (Nat.le_refl _) (.complex .f64 qf qf)).setCell (p := ⟨w.heap.size, 9, none⟩) (Nat.le_refl _) (.complex .f64 qf qf))
   have v0 := hr.set 0 (.complex .f64 qf qf)
   have s0 : (wr.setCell ⟨w.heap.size, 0, none⟩ (.complex .f64 qf qf)).cell? ⟨w.heap.size, 0, none⟩ = some (.complex .f64 qf qf) := by rw [v0.cell 0 (by decide)]; simp
   have v1 := v0.set 1 (.complex .f64 qf qf)
   have s1 : ((wr.setCell ⟨w.heap.size, 0, none⟩ (.complex .f64 qf qf)).setCell ⟨w.heap.size, 1, none⟩ (.complex .f64 qf qf)).cell? ⟨w.heap.size, 1, none⟩ = some (.complex .f64 qf qf) := by rw [v1.cell 1 (by decide)]; simp
   have v2 := v1.set 2 (.complex .f64 qf qf)
   have s2 : (((wr.setCell ⟨w.heap.size, 0, none⟩ (.complex .f64 qf qf)).setCell ⟨w.heap.size, 1, none⟩ (.complex .f64 qf qf)).setCell ⟨w.heap.size, 2, none⟩ (.complex .f64 qf qf)).cell? ⟨w.heap.size, 2, none⟩ = some (.complex .f64 qf qf) := by rw [v2.cell 2 (by decide)]; simp
   have v3 := v2.set 3 (.complex .f64 qf qf)
   have s3 : ((((wr.setCell ⟨w.heap.size, 0, none⟩ (.complex .f64 qf qf)).setCell ⟨w.heap.size, 1, none⟩ (.complex .f64 qf qf)).setCell ⟨w.heap.size, 2, none⟩ (.complex .f64 qf qf)).setCell ⟨w.heap.size, 3, none⟩ (.complex .f64 qf qf)).cell? ⟨w.heap.size, 3, none⟩ = some (.complex .f64 qf qf) := by rw [v3.cell 3 (by decide)]; simp
   have v4 := v3.set 4 (.complex .f64 qf qf)
   have s4 : (((((wr.setCell ⟨w.heap.size, 0, none⟩ (.complex .f64 qf qf)).setCell ⟨w.heap.size, 1, none⟩ (.complex .f64 qf qf)).setCell ⟨w.heap.size, 2, none⟩ (.complex .f64 qf qf)).setCell ⟨w.heap.size, 3, none⟩ (.complex .f64 qf qf)).setCell ⟨w.heap.size, 4, none⟩ (.complex .f64 qf qf)).cell? ⟨w.heap.size, 4, none⟩ = some (.complex .f64 qf qf) := by rw [v4.cell 4 (by decide)]; simp
   have v5 := v4.set 5 (.complex .f64 qf qf)
   have s5 : ((((((wr.setCell ⟨w.heap.size, 0, none⟩ (.complex .f64 qf qf)).setCell ⟨w.heap.size, 1, none⟩ (.complex .f64 qf qf)).setCell ⟨w.heap.size, 2, none⟩ (.complex .f64 qf qf)).setCell ⟨w.heap.size, 3, none⟩ (.complex .f64 qf qf)).setCell ⟨w.heap.size, 4, none⟩ (.complex .f64 qf qf)).setCell ⟨w.heap.size, 5, none⟩ (.complex .f64 qf qf)).cell? ⟨w.heap.size, 5, none⟩ = some (.complex .f64 qf qf) := by rw [v5.cell 5 (by decide)]; simp
   have v6 := v5.set 6 (.complex .f64 qf qf)
   have s6 : (((((((wr.setCell ⟨w.heap.size, 0, none⟩ (.complex .f64 qf qf)).setCell ⟨w.heap.size, 1, none⟩ (.complex .f64 qf qf)).setCell ⟨w.heap.size, 2, none⟩ (.complex .f64 qf qf)).setCell ⟨w.heap.size, 3, none⟩ (.complex .f64 qf qf)).setCell ⟨w.heap.size, 4, none⟩ (.complex .f64 qf qf)).setCell ⟨w.heap.size, 5, none⟩ (.complex .f64 qf qf)).setCell ⟨w.heap.size, 6, none⟩ (.complex .f64 qf qf)).cell? ⟨w.heap.size, 6, none⟩ = some (.complex .f64 qf qf) := by rw [v6.cell 6 (by decide)]; simp
   have v7 := v6.set 7 (.complex .f64 qf qf)
   have s7 : ((((((((wr.setCell ⟨w.heap.size, 0, none⟩ (.complex .f64 qf qf)).setCell ⟨w.heap.size, 1, none⟩ (.complex .f64 qf qf)).setCell ⟨w.heap.size, 2, none⟩ (.complex .f64 qf qf)).setCell ⟨w.heap.size, 3, none⟩ (.complex .f64 qf qf)).setCell ⟨w.heap.size, 4, none⟩ (.complex .f64 qf qf)).setCell ⟨w.heap.size, 5, none⟩ (.complex .f64 qf qf)).setCell ⟨w.heap.size, 6, none⟩ (.complex .f64 qf qf)).setCell ⟨w.heap.size, 7, none⟩ (.complex .f64 qf qf)).cell? ⟨w.heap.size, 7, none⟩ = some (.complex .f64 qf qf) := by rw [v7.cell 7 (by decide)]; simp
   have v8 := v7.set 8 (.complex .f64 qf qf)
   have s8 : (((((((((wr.setCell ⟨w.heap.size, 0, none⟩ (.complex .f64 qf qf)).setCell ⟨w.heap.size, 1, none⟩ (.complex .f64 qf qf)).setCell ⟨w.heap.size, 2, none⟩ (.complex .f64 qf qf)).setCell ⟨w.heap.size, 3, none⟩ (.complex .f64 qf qf)).setCell ⟨w.heap.size, 4, none⟩ (.complex .f64 qf qf)).setCell ⟨w.heap.size, 5, none⟩ (.complex .f64 qf qf)).setCell ⟨w.heap.size, 6, none⟩ (.complex .f64 qf qf)).setCell ⟨w.heap.size, 7, none⟩ (.complex .f64 qf qf)).setCell ⟨w.heap.size, 8, none⟩ (.complex .f64 qf qf)).cell? ⟨w.heap.size, 8, none⟩ = some (.complex .f64 qf qf) := by rw [v8.cell 8 (by decide)]; simp
   have v9 := v8.set 9 (.complex .f64 qf qf)
   have s9 : ((((((((((wr.setCell ⟨w.heap.size, 0, none⟩ (.complex .f64 qf qf)).setCell ⟨w.heap.size, 1, none⟩ (.complex .f64 qf qf)).setCell ⟨w.heap.size, 2, none⟩ (.complex .f64 qf qf)).setCell ⟨w.heap.size, 3, none⟩ (.complex .f64 qf qf)).setCell ⟨w.heap.size, 4, none⟩ (.complex .f64 qf qf)).setCell ⟨w.heap.size, 5, none⟩ (.complex .f64 qf qf)).setCell ⟨w.heap.size, 6, none⟩ (.complex .f64 qf qf)).setCell ⟨w.heap.size, 7, none⟩ (.complex .f64 qf qf)).setCell ⟨w.heap.size, 8, none⟩ (.complex .f64 qf qf)).setCell ⟨w.heap.size, 9, none⟩ (.complex .f64 qf qf)).cell? ⟨w.heap.size, 9, none⟩ = some (.complex .f64 qf qf) := by rw [v9.cell 9 (by decide)]; simp
   have za := ξ (ζ s0 (ζ s1 (ζ s2 (ζ s3 (ζ s4 (ζ s5 (ζ s6 (ζ s7 (ζ s8 s9)))))))))
   clear hr hc v0 v1 v2 v3 v4 v5 v6 v7 v8 v9 s0 s1 s2 s3 s4 s5 s6 s7 s8 s9
   go_wp2
   obtain ⟨s0, s1, s2, s3, s4, s5, s6, s7, s8, s9⟩ := za.out
   refine bodyPost_ret (v := qk fun _ => none) (by simp [results, results14, go_sem, qk, qj, s0, s1, s2, s3, s4, s5, s6, s7, s8, s9]) rfl ⟨rfl, HB.out⟩
end Go.Proofs.YtjgegohidhdbpaaGreatDoor
