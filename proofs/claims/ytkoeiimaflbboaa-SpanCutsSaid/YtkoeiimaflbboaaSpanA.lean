/- What the span functions compare, and the contracts of the smallest ones: None, isWhole, whole, May. -/
import Derived.Test.YtkoeiimaflbboaaRows
import Derived.Test.YtkoeiimaflbboaaFloat
import Derived.WalkKit
import Derived.WalkLawsBesides
import Derived.Lib.Hide
import Derived.Outline
namespace Go.Proofs.Ytkoeiimaflbboaa
open Go.RowKit Go.Proofs.Ytkoeiimaflbboaa.Fl
set_option linter.unusedVariables false

/-- The word of 999999999, and that of -1. -/
def MAXB : Nat := 4741671816358002688
def NEGB : Nat := 13830554455654793216

theorem val_zero : val 0 = some 0 := by decide +kernel
theorem val_max : val MAXB = some 999999999 := by decide +kernel
theorem val_neg : val NEGB = some (-1) := by decide +kernel

def geB (x y : Nat) : Bool := FloatKind.f64.format.order x y == some .gt || FloatKind.f64.format.order x y == some .eq
def leB (x y : Nat) : Bool := FloatKind.f64.format.order x y == some .lt || FloatKind.f64.format.order x y == some .eq

/-- The span that two words are. -/
def sp (x y : Nat) : Option (Int × Int) := match val x, val y with
  | some m, some n => if 0 ≤ m ∧ m ≤ n ∧ n ≤ 999999999 then some (m, n) else none
  | _, _ => none

theorem sp_some {x y : Nat} {m n : Int} (h : sp x y = some (m, n)) : val x = some m ∧ val y = some n ∧ 0 ≤ m ∧ m ≤ n ∧ n ≤ 999999999 := by
  unfold sp at h
  split at h
  · rename_i a b ha hb
    split at h
    · rename_i hc
      simp only [Option.some.injEq, Prod.mk.injEq] at h
      obtain ⟨rfl, rfl⟩ := h
      exact ⟨ha, hb, hc⟩
    · cases h
  · cases h

theorem sp_of {x y : Nat} {m n : Int} (hx : val x = some m) (hy : val y = some n) (h0 : 0 ≤ m) (h1 : m ≤ n) (h2 : n ≤ 999999999) : sp x y = some (m, n) := by
  unfold sp; rw [hx, hy]; simp [h0, h1, h2]

theorem order_rfl (x y : Nat) : FloatKind.f64.format.order x y = Ieee.double.order x y := rfl

theorem geB_val {x y : Nat} {m n : Int} (hx : val x = some m) (hy : val y = some n) : geB x y = decide (n ≤ m) := by
  unfold geB
  rw [order_rfl, order_val hx hy]
  rcases Int.lt_trichotomy m n with h | h | h
  · rw [Int.compare_eq_lt.2 h]; have : ¬ n ≤ m := by omega
    simp [this]
  · subst h; simp
  · rw [Int.compare_eq_gt.2 h]; have : n ≤ m := by omega
    simp [this]

theorem leB_un {x y : Nat} {m n : Int} (hx : un x = some m) (hy : un y = some n) : leB x y = decide (m ≤ n) := by
  unfold leB
  rw [order_rfl, order_un hx hy]
  rcases Int.lt_trichotomy m n with h | h | h
  · rw [Int.compare_eq_lt.2 h]; have : m ≤ n := by omega
    simp [this]
  · subst h; simp
  · rw [Int.compare_eq_gt.2 h]; have : ¬ m ≤ n := by omega
    simp [this]

theorem geB_un {x y : Nat} {m n : Int} (hx : un x = some m) (hy : un y = some n) : geB x y = decide (n ≤ m) := by
  unfold geB
  rw [order_rfl, order_un hx hy]
  rcases Int.lt_trichotomy m n with h | h | h
  · rw [Int.compare_eq_lt.2 h]; have : ¬ n ≤ m := by omega
    simp [this]
  · subst h; simp
  · rw [Int.compare_eq_gt.2 h]; have : n ≤ m := by omega
    simp [this]

theorem leB_val {x y : Nat} {m n : Int} (hx : val x = some m) (hy : val y = some n) : leB x y = decide (m ≤ n) := by
  rw [leB_un (val_some hx) (val_some hy)]
  have := unit_posI
  by_cases h : m ≤ n
  · simp [h, Int.mul_le_mul_of_nonneg_right h (Int.le_of_lt this)]
  · have h2 : ¬ m * unit ≤ n * unit := by
      have := Int.mul_lt_mul_of_pos_right (Int.not_le.1 h) this
      omega
    simp [h, h2]

/-- What is not below nought, and not above the greatest number, is a number. -/
theorem un_low {x : Nat} (h0 : geB x 0 = true) (h1 : leB x MAXB = true) : ∃ u : Int, un x = some u := by
  unfold un
  cases hr : Ieee.double.read x with
  | number s m p => exact ⟨_, rfl⟩
  | nan s f =>
    have : Ieee.double.order x 0 = none := by unfold Ieee.Format.order; rw [hr]; rfl
    unfold geB at h0; rw [order_rfl, this] at h0; cases h0
  | infinity s =>
    cases s
    · have : Ieee.double.order x MAXB = some .gt := by
        unfold Ieee.Format.order; rw [hr]
        have : Ieee.double.read MAXB = .number false 8388607991611392 (-23) := by decide +kernel
        rw [this]; rfl
      unfold leB at h1; rw [order_rfl, this] at h1; cases h1
    · have : Ieee.double.order x 0 = some .lt := by
        unfold Ieee.Format.order; rw [hr]
        have : Ieee.double.read 0 = .number false 0 (-1074) := by decide +kernel
        rw [this]; rfl
      unfold geB at h0; rw [order_rfl, this] at h0; cases h0

theorem un_between {x : Nat} (h0 : geB x 0 = true) (h1 : leB x MAXB = true) : ∃ u : Int, un x = some u ∧ 0 ≤ u ∧ u ≤ 999999999 * unit := by
  obtain ⟨u, hu⟩ := un_low h0 h1
  have hz := val_some val_zero
  have hm := val_some val_max
  rw [geB_un hu hz] at h0
  rw [leB_un hu hm] at h1
  exact ⟨u, hu, by simpa using h0, by simpa using h1⟩

theorem below53 {u : Int} (h : u ≤ 999999999 * unit) : u < ((2 ^ 53 : Nat) : Int) * unit := by
  have := Int.mul_lt_mul_of_pos_right (show (999999999 : Int) < ((2 ^ 53 : Nat) : Int) by decide) unit_posI
  omega

/-- Two numbers in order, between nought and the greatest. -/
theorem un_pair {x y : Nat} (h0 : geB x 0 = true) (h1 : leB x y = true) (h2 : leB y MAXB = true) :
    ∃ u v : Int, un x = some u ∧ un y = some v ∧ 0 ≤ u ∧ u ≤ v ∧ v ≤ 999999999 * unit := by
  have hz := val_some val_zero
  have hm := val_some val_max
  have hy0 : ∃ v : Int, un y = some v := by
    unfold un
    cases hr : Ieee.double.read y with
    | number s m p => exact ⟨_, rfl⟩
    | nan s f =>
      have : Ieee.double.order y MAXB = none := by unfold Ieee.Format.order; rw [hr]; rfl
      unfold leB at h2; rw [order_rfl, this] at h2; cases h2
    | infinity s =>
      cases s
      · have : Ieee.double.order y MAXB = some .gt := by
          unfold Ieee.Format.order; rw [hr]
          have : Ieee.double.read MAXB = .number false 8388607991611392 (-23) := by decide +kernel
          rw [this]; rfl
        unfold leB at h2; rw [order_rfl, this] at h2; cases h2
      · exfalso
        have hg : Ieee.double.order x y = some .gt ∨ Ieee.double.order x y = none ∨ Ieee.double.order x 0 = some .lt := by
          unfold Ieee.Format.order; rw [hr]
          cases hq : Ieee.double.read x with
          | number s m p => left; rfl
          | nan s f => right; left; rfl
          | infinity t =>
            cases t
            · left; rfl
            · right; right
              have : Ieee.double.read 0 = .number false 0 (-1074) := by decide +kernel
              rw [this]; rfl
        rcases hg with hg | hg | hg
        · unfold leB at h1; rw [order_rfl, hg] at h1; cases h1
        · unfold leB at h1; rw [order_rfl, hg] at h1; cases h1
        · unfold geB at h0; rw [order_rfl, hg] at h0; cases h0
  obtain ⟨v, hv⟩ := hy0
  have hx0 : ∃ u : Int, un x = some u := by
    cases hq : Ieee.double.read x with
    | number s m p => exact ⟨_, by unfold un; rw [hq]; rfl⟩
    | nan s f =>
      have : Ieee.double.order x 0 = none := by unfold Ieee.Format.order; rw [hq]; rfl
      unfold geB at h0; rw [order_rfl, this] at h0; cases h0
    | infinity s =>
      obtain ⟨t, a, b, hr, _, _⟩ := un_some hv
      cases s
      · have : Ieee.double.order x y = some .gt := by unfold Ieee.Format.order; rw [hq, hr]; rfl
        unfold leB at h1; rw [order_rfl, this] at h1; cases h1
      · have : Ieee.double.order x 0 = some .lt := by
          unfold Ieee.Format.order; rw [hq]
          have : Ieee.double.read 0 = .number false 0 (-1074) := by decide +kernel
          rw [this]; rfl
        unfold geB at h0; rw [order_rfl, this] at h0; cases h0
  obtain ⟨u, hu⟩ := hx0
  rw [geB_un hu hz] at h0
  rw [leB_un hu hv] at h1
  rw [leB_un hv hm] at h2
  exact ⟨u, v, hu, hv, by simpa using h0, by simpa using h1, by simpa using h2⟩

theorem sp_no0 {x y : Nat} (h : geB x 0 = false) : sp x y = none := by
  cases hs : sp x y with
  | none => rfl
  | some q =>
    obtain ⟨m, n⟩ := q
    obtain ⟨hx, _, h0, _⟩ := sp_some hs
    rw [geB_val hx val_zero] at h
    have : ¬ 0 ≤ m := by simpa using h
    exact absurd h0 this

theorem sp_no1 {x y : Nat} (h : leB x y = false) : sp x y = none := by
  cases hs : sp x y with
  | none => rfl
  | some q =>
    obtain ⟨m, n⟩ := q
    obtain ⟨hx, hy, _, h1, _⟩ := sp_some hs
    rw [leB_val hx hy] at h
    have : ¬ m ≤ n := by simpa using h
    exact absurd h1 this

theorem sp_no2 {x y : Nat} (h : leB y MAXB = false) : sp x y = none := by
  cases hs : sp x y with
  | none => rfl
  | some q =>
    obtain ⟨m, n⟩ := q
    obtain ⟨_, hy, _, _, h2⟩ := sp_some hs
    rw [leB_val hy val_max] at h
    have : ¬ n ≤ 999999999 := by simpa using h
    exact absurd h2 this

theorem sp_no3 {x y : Nat} {u : Int} (hx : un x = some u) (h : u % unit ≠ 0) : sp x y = none := by
  unfold sp val; rw [hx]; simp [h]

theorem sp_no4 {x y : Nat} {u : Int} (hy : un y = some u) (h : u % unit ≠ 0) : sp x y = none := by
  have : val y = none := by unfold val; rw [hy]; simp [h]
  unfold sp; rw [this]; split <;> first | rfl | (rename_i h2; cases h2)

theorem sp_yes {x y : Nat} {u v : Int} (hx : un x = some u) (hy : un y = some v) (h0 : 0 ≤ u) (h1 : u ≤ v) (h2 : v ≤ 999999999 * unit) (hu : u % unit = 0) (hv : v % unit = 0) :
    sp x y = some (u / unit, v / unit) := by
  have hx' : val x = some (u / unit) := by unfold val; rw [hx]; simp [hu]
  have hy' : val y = some (v / unit) := by unfold val; rw [hy]; simp [hv]
  refine sp_of hx' hy' (Int.ediv_nonneg h0 (Int.le_of_lt unit_posI)) (Int.ediv_le_ediv unit_posI h1) ?_
  have := Int.ediv_le_ediv unit_posI h2
  rwa [Int.mul_ediv_cancel _ (Int.ne_of_gt unit_posI)] at this

theorem cut_order {x y : Nat} {u : Int} (hx : un x = some u) (hy : un y = some (u / unit * unit)) :
    (u % unit = 0 → FloatKind.f64.format.order y x = some .eq) ∧ (u % unit ≠ 0 → FloatKind.f64.format.order y x = some .lt) := by
  have e := Int.mul_ediv_add_emod u unit
  have ep := Int.emod_nonneg u (Int.ne_of_gt unit_posI)
  rw [Int.mul_comm] at e
  rw [order_rfl, order_un hy hx]
  constructor
  · intro h; rw [h, Int.add_zero] at e; rw [e]; simp
  · intro h
    have : u / unit * unit < u := by omega
    rw [Int.compare_eq_lt.2 this]

theorem toInt_val {x : Nat} {u : Int} (hx : un x = some u) (h0 : 0 ≤ u) (h1 : u ≤ 999999999 * unit) : floatToIntVal .f64 x .i64 = some (u / unit) := by
  have h := (un_trunc hx h0 (below53 h1)).2
  have hlo := Int.ediv_nonneg h0 (Int.le_of_lt unit_posI)
  have hhi := Int.ediv_le_ediv unit_posI h1
  rw [Int.mul_ediv_cancel _ (Int.ne_of_gt unit_posI)] at hhi
  unfold floatToIntVal
  have h' : (FloatKind.f64.decode x).toInt .zero = some (u / unit) := h
  rw [h']
  have b1 : IntKind.i64.min = -9223372036854775808 := rfl
  have b2 : IntKind.i64.max = 9223372036854775807 := rfl
  simp only [b1, b2]
  rw [if_pos ⟨by omega, by omega⟩]

theorem decode_eq (x : Nat) : FloatKind.f64.decode x = Ieee.double.read x := rfl

attribute [local irreducible] FloatKind.decode in
theorem trunc_run (x : Nat) (u : Int) (h : un x = some u) (h0 : 0 ≤ u) (h1 : u ≤ 999999999 * unit) :
    ∃ y, un y = some (u / unit * unit) ∧ ∀ w, Sem.run Try.prog (callFunc 35 #[.float .f64 x]) w = .ok (.value (.float .f64 y)) w := by
  obtain ⟨s, m, p, hr, _, _⟩ := un_some h
  refine ⟨_, (un_trunc h h0 (below53 h1)).1, fun w => ?_⟩
  rw [run_callFunc_extern Try.func35 (by kernel_rfl) (by kernel_rfl) (by kernel_rfl) (e := Extern.MathFloor.toIntegral "math.archTrunc" .zero) (by kernel_rfl)]
  have hd : FloatKind.f64.decode x = .number s m p := (decode_eq x).trans hr
  have hT : Extern.MathFloor.toIntegral "math.archTrunc" .zero #[.float .f64 x] = pure (.float .f64 (FloatKind.f64.encode ((Ieee.Datum.number s m p).integral .zero))) := by
    conv => lhs; whnf
    rw [hd]
  rw [hT, hr]
  rfl

theorem none_code (w : World) : Calls Try.prog 21 #[] w fun e w' => e = .returned (.complex .f64 NEGB NEGB) ∧ w = w' := by
  go_enter Try.func21, Try.ntmps21
  go_wp2
  go_ret
  exact ⟨rfl, rfl⟩

theorem none_ref (w : World) : Calls Try.prog 22 #[] w fun e w' => e = .returned (.complex .f64 NEGB NEGB) ∧ w = w' := by
  go_enter Try.func22, Try.ntmps22
  go_wp2
  go_ret
  exact ⟨rfl, rfl⟩

theorem isWhole_yes (x : Nat) (u : Int) (w : World) (h : un x = some u) (h0 : 0 ≤ u) (h1 : u ≤ 999999999 * unit) (hz : u % unit = 0) :
    Calls Try.prog 32 #[.float .f64 x] w fun e w' => e = .returned (.bool true) ∧ w = w' := by
  obtain ⟨y, hy, hrun⟩ := trunc_run x u h h0 h1
  have ho := (cut_order h hy).1 hz
  clear h h0 h1 hz hy
  go_enter Try.func32, Try.ntmps32
  go_wp2
  go_ret
  exact ⟨rfl, rfl⟩

theorem isWhole_no (x : Nat) (u : Int) (w : World) (h : un x = some u) (h0 : 0 ≤ u) (h1 : u ≤ 999999999 * unit) (hz : u % unit ≠ 0) :
    Calls Try.prog 32 #[.float .f64 x] w fun e w' => e = .returned (.bool false) ∧ w = w' := by
  obtain ⟨y, hy, hrun⟩ := trunc_run x u h h0 h1
  have ho := (cut_order h hy).2 hz
  clear h h0 h1 hz hy
  go_enter Try.func32, Try.ntmps32
  go_wp2
  go_ret
  exact ⟨rfl, rfl⟩

end Go.Proofs.Ytkoeiimaflbboaa
