/- The reference's fields: what it answers. -/
import Derived.Test.YthbldjiibgnfmaaGreatDoorZRxIt
import Derived.BigQuiet
namespace Go.Proofs.YthbldjiibgnfmaaGreatDoor
open Go.RowKit
set_option linter.unusedVariables false
set_option linter.unusedSimpArgs false

theorem keyA4 : Tryz.prog.keyTypeAt 2 23 = true := by kernel_rfl
set_option maxRecDepth 100000 in
theorem formedA4 (a b c d : Int) : (Value.agg #[.int .u64 a, .int .u64 b, .int .u64 c, .int .u64 d]).formed Tryz.prog 23 = true := by
  simp [Value.formed, Tryz.underlying23, cellsA4]
set_option maxRecDepth 100000 in
theorem litsA4 (a b c d : Nat) (h0 : a < 18446744073709551616) (h1 : b < 18446744073709551616) (h2 : c < 18446744073709551616) (h3 : d < 18446744073709551616) :
    Tryz.prog.keyLits 3 23 [.int .u64 a, .int .u64 b, .int .u64 c, .int .u64 d] = some [.int .u64 a, .int .u64 b, .int .u64 c, .int .u64 d] := by
  have h0 := wf_u64 h0; have h1 := wf_u64 h1; have h2 := wf_u64 h2; have h3 := wf_u64 h3
  simp [Program.keyLits, Tryz.underlying22, Tryz.underlying23, cellsU, cellsA4, h0, h1, h2, h3, show List.range 4 = [0, 1, 2, 3] from rfl]
set_option maxRecDepth 100000 in
theorem eq_zero4 (a b c d : Nat) (h0 : a < 18446744073709551616) (h1 : b < 18446744073709551616) (h2 : c < 18446744073709551616) (h3 : d < 18446744073709551616) (w : World) :
    (Op.equalIn 10000 23 (.agg #[.int .u64 a, .int .u64 b, .int .u64 c, .int .u64 d]) (.agg #[.int .u64 0, .int .u64 0, .int .u64 0, .int .u64 0])).run Tryz.prog w = .ok (decide (a = 0 ∧ b = 0 ∧ c = 0 ∧ d = 0)) w := by
  obtain ⟨r, hr, hiff⟩ := run_equalIn_deep 9998 2 _ keyA4 w 3 3 _ _ _ _ (formedA4 a b c d) (formedA4 (0 : Nat) (0 : Nat) (0 : Nat) (0 : Nat)) (litsA4 a b c d h0 h1 h2 h3) (litsA4 0 0 0 0 (by decide) (by decide) (by decide) (by decide))
  have hr' : (Op.equalIn 10000 23 (.agg #[.int .u64 a, .int .u64 b, .int .u64 c, .int .u64 d]) (.agg #[.int .u64 0, .int .u64 0, .int .u64 0, .int .u64 0])).run Tryz.prog w = .ok r w := hr
  rw [hr']
  congr 1
  rw [Bool.eq_iff_iff, hiff, decide_eq_true_iff]
  simp

set_option maxRecDepth 100000 in
set_option maxHeartbeats 4000000 in
theorem fields_0 (w0 w1 w2 w3 : Nat) (a b m M n : Int) (hx : Nd.Fits ⟨0, w0, w1, w2, w3, a, b, m, M, n⟩) (w : World) :
    Calls Tryz.prog 82 #[.agg #[.int .i64 0, .int .u64 w0, .int .u64 w1, .int .u64 w2, .int .u64 w3, .int .i64 a, .int .i64 b, .int .i64 m, .int .i64 M, .int .i64 n]] w fun e w' => e = .returned (.bool (isNd ⟨0, w0, w1, w2, w3, a, b, m, M, n⟩)) ∧ Below w.heap.size w w' := by
  have fy : Nd.Fits ⟨0, 0, 0, 0, 0, 0, 0, 0, 0, 0⟩ := ⟨hx.k, (by decide : (0 : Nat) < 18446744073709551616), (by decide : (0 : Nat) < 18446744073709551616), (by decide : (0 : Nat) < 18446744073709551616), (by decide : (0 : Nat) < 18446744073709551616), (by decide : -9223372036854775808 ≤ (0 : Int) ∧ (0 : Int) ≤ 9223372036854775807), (by decide : -9223372036854775808 ≤ (0 : Int) ∧ (0 : Int) ≤ 9223372036854775807), (by decide : -9223372036854775808 ≤ (0 : Int) ∧ (0 : Int) ≤ 9223372036854775807), (by decide : -9223372036854775808 ≤ (0 : Int) ∧ (0 : Int) ≤ 9223372036854775807), (by decide : -9223372036854775808 ≤ (0 : Int) ∧ (0 : Int) ≤ 9223372036854775807)⟩
  obtain ⟨ey, hey⟩ : ∃ c, c = decide ((⟨0, w0, w1, w2, w3, a, b, m, M, n⟩ : Nd) = (⟨0, 0, 0, 0, 0, 0, 0, 0, 0, 0⟩ : Nd)) := ⟨_, rfl⟩
  have qy : ∀ w, (Op.equalIn 10000 47 (.agg #[.int .i64 0, .int .u64 0, .int .u64 0, .int .u64 0, .int .u64 0, .int .i64 0, .int .i64 0, .int .i64 0, .int .i64 0, .int .i64 0]) (.agg #[.int .i64 0, .int .u64 w0, .int .u64 w1, .int .u64 w2, .int .u64 w3, .int .i64 a, .int .i64 b, .int .i64 m, .int .i64 M, .int .i64 n])).run Tryz.prog w = .ok ey w := fun w => by
    have := eq_rn (⟨0, 0, 0, 0, 0, 0, 0, 0, 0, 0⟩ : Nd) (⟨0, w0, w1, w2, w3, a, b, m, M, n⟩ : Nd) fy hx w
    rw [show decide ((⟨0, 0, 0, 0, 0, 0, 0, 0, 0, 0⟩ : Nd) = (⟨0, w0, w1, w2, w3, a, b, m, M, n⟩ : Nd)) = ey by rw [hey]; exact decide_eq_decide.2 eq_comm] at this
    exact this
  have hr : isNd ⟨0, w0, w1, w2, w3, a, b, m, M, n⟩ = ey := by rw [hey]; rfl
  rw [hr]
  clear hr hey
  have hB3 : ∀ o1 o2 o3, Below w.heap.size w (((w.alloc o1).alloc o2).alloc o3) := fun o1 o2 o3 => (((Below.refl _ w).alloc (Nat.le_refl _) _).alloc (by rw [World.size_alloc]; omega) _).alloc (by rw [World.size_alloc, World.size_alloc]; omega) _
  cases ey
  · go_enter Tryz.func82, Tryz.ntmps82
    go_wp2
    go_ret
    exact ⟨rfl, hB3 _ _ _⟩
  · go_enter Tryz.func82, Tryz.ntmps82
    go_wp2
    go_ret
    exact ⟨rfl, hB3 _ _ _⟩

set_option maxRecDepth 100000 in
set_option maxHeartbeats 4000000 in
theorem fields_2 (w0 w1 w2 w3 : Nat) (a b m M n : Int) (hx : Nd.Fits ⟨2, w0, w1, w2, w3, a, b, m, M, n⟩) (w : World) :
    Calls Tryz.prog 82 #[.agg #[.int .i64 2, .int .u64 w0, .int .u64 w1, .int .u64 w2, .int .u64 w3, .int .i64 a, .int .i64 b, .int .i64 m, .int .i64 M, .int .i64 n]] w fun e w' => e = .returned (.bool (isNd ⟨2, w0, w1, w2, w3, a, b, m, M, n⟩)) ∧ Below w.heap.size w w' := by
  have fy : Nd.Fits ⟨2, 0, 0, 0, 0, 0, 0, 0, 0, 0⟩ := ⟨hx.k, (by decide : (0 : Nat) < 18446744073709551616), (by decide : (0 : Nat) < 18446744073709551616), (by decide : (0 : Nat) < 18446744073709551616), (by decide : (0 : Nat) < 18446744073709551616), (by decide : -9223372036854775808 ≤ (0 : Int) ∧ (0 : Int) ≤ 9223372036854775807), (by decide : -9223372036854775808 ≤ (0 : Int) ∧ (0 : Int) ≤ 9223372036854775807), (by decide : -9223372036854775808 ≤ (0 : Int) ∧ (0 : Int) ≤ 9223372036854775807), (by decide : -9223372036854775808 ≤ (0 : Int) ∧ (0 : Int) ≤ 9223372036854775807), (by decide : -9223372036854775808 ≤ (0 : Int) ∧ (0 : Int) ≤ 9223372036854775807)⟩
  obtain ⟨ey, hey⟩ : ∃ c, c = decide ((⟨2, w0, w1, w2, w3, a, b, m, M, n⟩ : Nd) = (⟨2, 0, 0, 0, 0, 0, 0, 0, 0, 0⟩ : Nd)) := ⟨_, rfl⟩
  have qy : ∀ w, (Op.equalIn 10000 47 (.agg #[.int .i64 2, .int .u64 0, .int .u64 0, .int .u64 0, .int .u64 0, .int .i64 0, .int .i64 0, .int .i64 0, .int .i64 0, .int .i64 0]) (.agg #[.int .i64 2, .int .u64 w0, .int .u64 w1, .int .u64 w2, .int .u64 w3, .int .i64 a, .int .i64 b, .int .i64 m, .int .i64 M, .int .i64 n])).run Tryz.prog w = .ok ey w := fun w => by
    have := eq_rn (⟨2, 0, 0, 0, 0, 0, 0, 0, 0, 0⟩ : Nd) (⟨2, w0, w1, w2, w3, a, b, m, M, n⟩ : Nd) fy hx w
    rw [show decide ((⟨2, 0, 0, 0, 0, 0, 0, 0, 0, 0⟩ : Nd) = (⟨2, w0, w1, w2, w3, a, b, m, M, n⟩ : Nd)) = ey by rw [hey]; exact decide_eq_decide.2 eq_comm] at this
    exact this
  have hr : isNd ⟨2, w0, w1, w2, w3, a, b, m, M, n⟩ = ey := by rw [hey]; rfl
  rw [hr]
  clear hr hey
  have hB3 : ∀ o1 o2 o3, Below w.heap.size w (((w.alloc o1).alloc o2).alloc o3) := fun o1 o2 o3 => (((Below.refl _ w).alloc (Nat.le_refl _) _).alloc (by rw [World.size_alloc]; omega) _).alloc (by rw [World.size_alloc, World.size_alloc]; omega) _
  cases ey
  · go_enter Tryz.func82, Tryz.ntmps82
    go_wp2
    go_ret
    exact ⟨rfl, hB3 _ _ _⟩
  · go_enter Tryz.func82, Tryz.ntmps82
    go_wp2
    go_ret
    exact ⟨rfl, hB3 _ _ _⟩

set_option maxRecDepth 100000 in
set_option maxHeartbeats 4000000 in
theorem fields_3 (w0 w1 w2 w3 : Nat) (a b m M n : Int) (hx : Nd.Fits ⟨3, w0, w1, w2, w3, a, b, m, M, n⟩) (w : World) :
    Calls Tryz.prog 82 #[.agg #[.int .i64 3, .int .u64 w0, .int .u64 w1, .int .u64 w2, .int .u64 w3, .int .i64 a, .int .i64 b, .int .i64 m, .int .i64 M, .int .i64 n]] w fun e w' => e = .returned (.bool (isNd ⟨3, w0, w1, w2, w3, a, b, m, M, n⟩)) ∧ Below w.heap.size w w' := by
  have fy : Nd.Fits ⟨3, 0, 0, 0, 0, 0, 0, 0, 0, 0⟩ := ⟨hx.k, (by decide : (0 : Nat) < 18446744073709551616), (by decide : (0 : Nat) < 18446744073709551616), (by decide : (0 : Nat) < 18446744073709551616), (by decide : (0 : Nat) < 18446744073709551616), (by decide : -9223372036854775808 ≤ (0 : Int) ∧ (0 : Int) ≤ 9223372036854775807), (by decide : -9223372036854775808 ≤ (0 : Int) ∧ (0 : Int) ≤ 9223372036854775807), (by decide : -9223372036854775808 ≤ (0 : Int) ∧ (0 : Int) ≤ 9223372036854775807), (by decide : -9223372036854775808 ≤ (0 : Int) ∧ (0 : Int) ≤ 9223372036854775807), (by decide : -9223372036854775808 ≤ (0 : Int) ∧ (0 : Int) ≤ 9223372036854775807)⟩
  obtain ⟨ey, hey⟩ : ∃ c, c = decide ((⟨3, w0, w1, w2, w3, a, b, m, M, n⟩ : Nd) = (⟨3, 0, 0, 0, 0, 0, 0, 0, 0, 0⟩ : Nd)) := ⟨_, rfl⟩
  have qy : ∀ w, (Op.equalIn 10000 47 (.agg #[.int .i64 3, .int .u64 0, .int .u64 0, .int .u64 0, .int .u64 0, .int .i64 0, .int .i64 0, .int .i64 0, .int .i64 0, .int .i64 0]) (.agg #[.int .i64 3, .int .u64 w0, .int .u64 w1, .int .u64 w2, .int .u64 w3, .int .i64 a, .int .i64 b, .int .i64 m, .int .i64 M, .int .i64 n])).run Tryz.prog w = .ok ey w := fun w => by
    have := eq_rn (⟨3, 0, 0, 0, 0, 0, 0, 0, 0, 0⟩ : Nd) (⟨3, w0, w1, w2, w3, a, b, m, M, n⟩ : Nd) fy hx w
    rw [show decide ((⟨3, 0, 0, 0, 0, 0, 0, 0, 0, 0⟩ : Nd) = (⟨3, w0, w1, w2, w3, a, b, m, M, n⟩ : Nd)) = ey by rw [hey]; exact decide_eq_decide.2 eq_comm] at this
    exact this
  have hr : isNd ⟨3, w0, w1, w2, w3, a, b, m, M, n⟩ = ey := by rw [hey]; rfl
  rw [hr]
  clear hr hey
  have hB3 : ∀ o1 o2 o3, Below w.heap.size w (((w.alloc o1).alloc o2).alloc o3) := fun o1 o2 o3 => (((Below.refl _ w).alloc (Nat.le_refl _) _).alloc (by rw [World.size_alloc]; omega) _).alloc (by rw [World.size_alloc, World.size_alloc]; omega) _
  cases ey
  · go_enter Tryz.func82, Tryz.ntmps82
    go_wp2
    go_ret
    exact ⟨rfl, hB3 _ _ _⟩
  · go_enter Tryz.func82, Tryz.ntmps82
    go_wp2
    go_ret
    exact ⟨rfl, hB3 _ _ _⟩

set_option maxRecDepth 100000 in
set_option maxHeartbeats 4000000 in
theorem fields_1 (w0 w1 w2 w3 : Nat) (a b m M n : Int) (hx : Nd.Fits ⟨1, w0, w1, w2, w3, a, b, m, M, n⟩) (w : World) :
    Calls Tryz.prog 82 #[.agg #[.int .i64 1, .int .u64 w0, .int .u64 w1, .int .u64 w2, .int .u64 w3, .int .i64 a, .int .i64 b, .int .i64 m, .int .i64 M, .int .i64 n]] w fun e w' => e = .returned (.bool (isNd ⟨1, w0, w1, w2, w3, a, b, m, M, n⟩)) ∧ Below w.heap.size w w' := by
  have fy : Nd.Fits ⟨1, w0, w1, w2, w3, 0, 0, 0, 0, 0⟩ := ⟨hx.k, hx.s0, hx.s1, hx.s2, hx.s3, (by decide : -9223372036854775808 ≤ (0 : Int) ∧ (0 : Int) ≤ 9223372036854775807), (by decide : -9223372036854775808 ≤ (0 : Int) ∧ (0 : Int) ≤ 9223372036854775807), (by decide : -9223372036854775808 ≤ (0 : Int) ∧ (0 : Int) ≤ 9223372036854775807), (by decide : -9223372036854775808 ≤ (0 : Int) ∧ (0 : Int) ≤ 9223372036854775807), (by decide : -9223372036854775808 ≤ (0 : Int) ∧ (0 : Int) ≤ 9223372036854775807)⟩
  obtain ⟨ey, hey⟩ : ∃ c, c = decide ((⟨1, w0, w1, w2, w3, a, b, m, M, n⟩ : Nd) = (⟨1, w0, w1, w2, w3, 0, 0, 0, 0, 0⟩ : Nd)) := ⟨_, rfl⟩
  have qy : ∀ w, (Op.equalIn 10000 47 (.agg #[.int .i64 1, .int .u64 w0, .int .u64 w1, .int .u64 w2, .int .u64 w3, .int .i64 0, .int .i64 0, .int .i64 0, .int .i64 0, .int .i64 0]) (.agg #[.int .i64 1, .int .u64 w0, .int .u64 w1, .int .u64 w2, .int .u64 w3, .int .i64 a, .int .i64 b, .int .i64 m, .int .i64 M, .int .i64 n])).run Tryz.prog w = .ok ey w := fun w => by
    have := eq_rn (⟨1, w0, w1, w2, w3, 0, 0, 0, 0, 0⟩ : Nd) (⟨1, w0, w1, w2, w3, a, b, m, M, n⟩ : Nd) fy hx w
    rw [show decide ((⟨1, w0, w1, w2, w3, 0, 0, 0, 0, 0⟩ : Nd) = (⟨1, w0, w1, w2, w3, a, b, m, M, n⟩ : Nd)) = ey by rw [hey]; exact decide_eq_decide.2 eq_comm] at this
    exact this
  obtain ⟨es, hes⟩ : ∃ c, c = decide (w0 = 0 ∧ w1 = 0 ∧ w2 = 0 ∧ w3 = 0) := ⟨_, rfl⟩
  have qs := fun w => eq_zero4 w0 w1 w2 w3 hx.s0 hx.s1 hx.s2 hx.s3 w
  rw [← hes] at qs
  have hr : isNd ⟨1, w0, w1, w2, w3, a, b, m, M, n⟩ = (!es && ey) := by
    rw [hey, hes]
    show (decide (¬ (w0 = 0 ∧ w1 = 0 ∧ w2 = 0 ∧ w3 = 0)) && _) = _
    congr 1
    simp
  rw [hr]
  clear hr hey hes
  have hB3 : ∀ o1 o2 o3, Below w.heap.size w (((w.alloc o1).alloc o2).alloc o3) := fun o1 o2 o3 => (((Below.refl _ w).alloc (Nat.le_refl _) _).alloc (by rw [World.size_alloc]; omega) _).alloc (by rw [World.size_alloc, World.size_alloc]; omega) _
  cases es
  · simp only [Bool.not_false, Bool.true_and]
    cases ey
    · go_enter Tryz.func82, Tryz.ntmps82
      go_wp2
      go_ret
      exact ⟨rfl, hB3 _ _ _⟩
    · go_enter Tryz.func82, Tryz.ntmps82
      go_wp2
      go_ret
      exact ⟨rfl, hB3 _ _ _⟩
  · simp only [Bool.not_true, Bool.false_and]
    cases ey
    · go_enter Tryz.func82, Tryz.ntmps82
      go_wp2
      go_ret
      exact ⟨rfl, hB3 _ _ _⟩
    · go_enter Tryz.func82, Tryz.ntmps82
      go_wp2
      go_ret
      exact ⟨rfl, hB3 _ _ _⟩

set_option maxRecDepth 100000 in
set_option maxHeartbeats 4000000 in
theorem fields_4 (w0 w1 w2 w3 : Nat) (a b m M n : Int) (hx : Nd.Fits ⟨4, w0, w1, w2, w3, a, b, m, M, n⟩) (w : World) :
    Calls Tryz.prog 82 #[.agg #[.int .i64 4, .int .u64 w0, .int .u64 w1, .int .u64 w2, .int .u64 w3, .int .i64 a, .int .i64 b, .int .i64 m, .int .i64 M, .int .i64 n]] w fun e w' => e = .returned (.bool (isNd ⟨4, w0, w1, w2, w3, a, b, m, M, n⟩)) ∧ Below w.heap.size w w' := by
  have fy : Nd.Fits ⟨4, 0, 0, 0, 0, a, b, 0, 0, 0⟩ := ⟨hx.k, (by decide : (0 : Nat) < 18446744073709551616), (by decide : (0 : Nat) < 18446744073709551616), (by decide : (0 : Nat) < 18446744073709551616), (by decide : (0 : Nat) < 18446744073709551616), hx.a, hx.b, (by decide : -9223372036854775808 ≤ (0 : Int) ∧ (0 : Int) ≤ 9223372036854775807), (by decide : -9223372036854775808 ≤ (0 : Int) ∧ (0 : Int) ≤ 9223372036854775807), (by decide : -9223372036854775808 ≤ (0 : Int) ∧ (0 : Int) ≤ 9223372036854775807)⟩
  obtain ⟨ey, hey⟩ : ∃ c, c = decide ((⟨4, w0, w1, w2, w3, a, b, m, M, n⟩ : Nd) = (⟨4, 0, 0, 0, 0, a, b, 0, 0, 0⟩ : Nd)) := ⟨_, rfl⟩
  have qy : ∀ w, (Op.equalIn 10000 47 (.agg #[.int .i64 4, .int .u64 0, .int .u64 0, .int .u64 0, .int .u64 0, .int .i64 a, .int .i64 b, .int .i64 0, .int .i64 0, .int .i64 0]) (.agg #[.int .i64 4, .int .u64 w0, .int .u64 w1, .int .u64 w2, .int .u64 w3, .int .i64 a, .int .i64 b, .int .i64 m, .int .i64 M, .int .i64 n])).run Tryz.prog w = .ok ey w := fun w => by
    have := eq_rn (⟨4, 0, 0, 0, 0, a, b, 0, 0, 0⟩ : Nd) (⟨4, w0, w1, w2, w3, a, b, m, M, n⟩ : Nd) fy hx w
    rw [show decide ((⟨4, 0, 0, 0, 0, a, b, 0, 0, 0⟩ : Nd) = (⟨4, w0, w1, w2, w3, a, b, m, M, n⟩ : Nd)) = ey by rw [hey]; exact decide_eq_decide.2 eq_comm] at this
    exact this
  have hr : isNd ⟨4, w0, w1, w2, w3, a, b, m, M, n⟩ = ey := by rw [hey]; rfl
  rw [hr]
  clear hr hey
  have hB3 : ∀ o1 o2 o3, Below w.heap.size w (((w.alloc o1).alloc o2).alloc o3) := fun o1 o2 o3 => (((Below.refl _ w).alloc (Nat.le_refl _) _).alloc (by rw [World.size_alloc]; omega) _).alloc (by rw [World.size_alloc, World.size_alloc]; omega) _
  cases ey
  · go_enter Tryz.func82, Tryz.ntmps82
    go_wp2
    go_ret
    exact ⟨rfl, hB3 _ _ _⟩
  · go_enter Tryz.func82, Tryz.ntmps82
    go_wp2
    go_ret
    exact ⟨rfl, hB3 _ _ _⟩

set_option maxRecDepth 100000 in
set_option maxHeartbeats 4000000 in
theorem fields_5 (w0 w1 w2 w3 : Nat) (a b m M n : Int) (hx : Nd.Fits ⟨5, w0, w1, w2, w3, a, b, m, M, n⟩) (w : World) :
    Calls Tryz.prog 82 #[.agg #[.int .i64 5, .int .u64 w0, .int .u64 w1, .int .u64 w2, .int .u64 w3, .int .i64 a, .int .i64 b, .int .i64 m, .int .i64 M, .int .i64 n]] w fun e w' => e = .returned (.bool (isNd ⟨5, w0, w1, w2, w3, a, b, m, M, n⟩)) ∧ Below w.heap.size w w' := by
  have fy : Nd.Fits ⟨5, 0, 0, 0, 0, a, b, 0, 0, 0⟩ := ⟨hx.k, (by decide : (0 : Nat) < 18446744073709551616), (by decide : (0 : Nat) < 18446744073709551616), (by decide : (0 : Nat) < 18446744073709551616), (by decide : (0 : Nat) < 18446744073709551616), hx.a, hx.b, (by decide : -9223372036854775808 ≤ (0 : Int) ∧ (0 : Int) ≤ 9223372036854775807), (by decide : -9223372036854775808 ≤ (0 : Int) ∧ (0 : Int) ≤ 9223372036854775807), (by decide : -9223372036854775808 ≤ (0 : Int) ∧ (0 : Int) ≤ 9223372036854775807)⟩
  obtain ⟨ey, hey⟩ : ∃ c, c = decide ((⟨5, w0, w1, w2, w3, a, b, m, M, n⟩ : Nd) = (⟨5, 0, 0, 0, 0, a, b, 0, 0, 0⟩ : Nd)) := ⟨_, rfl⟩
  have qy : ∀ w, (Op.equalIn 10000 47 (.agg #[.int .i64 5, .int .u64 0, .int .u64 0, .int .u64 0, .int .u64 0, .int .i64 a, .int .i64 b, .int .i64 0, .int .i64 0, .int .i64 0]) (.agg #[.int .i64 5, .int .u64 w0, .int .u64 w1, .int .u64 w2, .int .u64 w3, .int .i64 a, .int .i64 b, .int .i64 m, .int .i64 M, .int .i64 n])).run Tryz.prog w = .ok ey w := fun w => by
    have := eq_rn (⟨5, 0, 0, 0, 0, a, b, 0, 0, 0⟩ : Nd) (⟨5, w0, w1, w2, w3, a, b, m, M, n⟩ : Nd) fy hx w
    rw [show decide ((⟨5, 0, 0, 0, 0, a, b, 0, 0, 0⟩ : Nd) = (⟨5, w0, w1, w2, w3, a, b, m, M, n⟩ : Nd)) = ey by rw [hey]; exact decide_eq_decide.2 eq_comm] at this
    exact this
  have hr : isNd ⟨5, w0, w1, w2, w3, a, b, m, M, n⟩ = ey := by rw [hey]; rfl
  rw [hr]
  clear hr hey
  have hB3 : ∀ o1 o2 o3, Below w.heap.size w (((w.alloc o1).alloc o2).alloc o3) := fun o1 o2 o3 => (((Below.refl _ w).alloc (Nat.le_refl _) _).alloc (by rw [World.size_alloc]; omega) _).alloc (by rw [World.size_alloc, World.size_alloc]; omega) _
  cases ey
  · go_enter Tryz.func82, Tryz.ntmps82
    go_wp2
    go_ret
    exact ⟨rfl, hB3 _ _ _⟩
  · go_enter Tryz.func82, Tryz.ntmps82
    go_wp2
    go_ret
    exact ⟨rfl, hB3 _ _ _⟩

set_option maxRecDepth 100000 in
set_option maxHeartbeats 4000000 in
theorem fields_6 (w0 w1 w2 w3 : Nat) (a b m M n : Int) (hx : Nd.Fits ⟨6, w0, w1, w2, w3, a, b, m, M, n⟩) (w : World) :
    Calls Tryz.prog 82 #[.agg #[.int .i64 6, .int .u64 w0, .int .u64 w1, .int .u64 w2, .int .u64 w3, .int .i64 a, .int .i64 b, .int .i64 m, .int .i64 M, .int .i64 n]] w fun e w' => e = .returned (.bool (isNd ⟨6, w0, w1, w2, w3, a, b, m, M, n⟩)) ∧ Below w.heap.size w w' := by
  have fy : Nd.Fits ⟨6, 0, 0, 0, 0, a, 0, m, M, 0⟩ := ⟨hx.k, (by decide : (0 : Nat) < 18446744073709551616), (by decide : (0 : Nat) < 18446744073709551616), (by decide : (0 : Nat) < 18446744073709551616), (by decide : (0 : Nat) < 18446744073709551616), hx.a, (by decide : -9223372036854775808 ≤ (0 : Int) ∧ (0 : Int) ≤ 9223372036854775807), hx.mn, hx.mx, (by decide : -9223372036854775808 ≤ (0 : Int) ∧ (0 : Int) ≤ 9223372036854775807)⟩
  obtain ⟨ey, hey⟩ : ∃ c, c = decide ((⟨6, w0, w1, w2, w3, a, b, m, M, n⟩ : Nd) = (⟨6, 0, 0, 0, 0, a, 0, m, M, 0⟩ : Nd)) := ⟨_, rfl⟩
  have qy : ∀ w, (Op.equalIn 10000 47 (.agg #[.int .i64 6, .int .u64 0, .int .u64 0, .int .u64 0, .int .u64 0, .int .i64 a, .int .i64 0, .int .i64 m, .int .i64 M, .int .i64 0]) (.agg #[.int .i64 6, .int .u64 w0, .int .u64 w1, .int .u64 w2, .int .u64 w3, .int .i64 a, .int .i64 b, .int .i64 m, .int .i64 M, .int .i64 n])).run Tryz.prog w = .ok ey w := fun w => by
    have := eq_rn (⟨6, 0, 0, 0, 0, a, 0, m, M, 0⟩ : Nd) (⟨6, w0, w1, w2, w3, a, b, m, M, n⟩ : Nd) fy hx w
    rw [show decide ((⟨6, 0, 0, 0, 0, a, 0, m, M, 0⟩ : Nd) = (⟨6, w0, w1, w2, w3, a, b, m, M, n⟩ : Nd)) = ey by rw [hey]; exact decide_eq_decide.2 eq_comm] at this
    exact this
  have hr : isNd ⟨6, w0, w1, w2, w3, a, b, m, M, n⟩ = (isCnt m M && ey) := by rw [hey]; rfl
  have hB3 : ∀ o1 o2 o3, Below w.heap.size w (((w.alloc o1).alloc o2).alloc o3) := fun o1 o2 o3 => (((Below.refl _ w).alloc (Nat.le_refl _) _).alloc (by rw [World.size_alloc]; omega) _).alloc (by rw [World.size_alloc, World.size_alloc]; omega) _
  by_cases h1 : m < 0
  · have g1 : (m < 0) = True := by simp [h1]
    rw [show isCnt m M = false by unfold isCnt; rw [if_pos (by omega)]] at hr
    simp only [Bool.false_and] at hr
    rw [hr]
    clear hr hey
    go_enter Tryz.func82, Tryz.ntmps82
    go_wp2
    go_ret
    exact ⟨rfl, hB3 _ _ _⟩
  by_cases h2 : 255 < m
  · have g1 : (m < 0) = False := by simp; omega
    have g2 : (255 < m) = True := by simp [h2]
    rw [show isCnt m M = false by unfold isCnt; rw [if_pos (by omega)]] at hr
    simp only [Bool.false_and] at hr
    rw [hr]
    clear hr hey
    go_enter Tryz.func82, Tryz.ntmps82
    go_wp2
    go_ret
    exact ⟨rfl, hB3 _ _ _⟩
  have g1 : (m < 0) = False := by simp; omega
  have g2 : (255 < m) = False := by simp; omega
  by_cases h3 : M = -1
  · subst h3
    rw [show isCnt m (-1) = true by unfold isCnt; rw [if_neg (by omega)]; simp] at hr
    simp only [Bool.true_and] at hr
    rw [hr]
    clear hr hey
    cases ey
    · go_enter Tryz.func82, Tryz.ntmps82
      go_wp2
      go_ret
      exact ⟨rfl, hB3 _ _ _⟩
    · go_enter Tryz.func82, Tryz.ntmps82
      go_wp2
      go_ret
      exact ⟨rfl, hB3 _ _ _⟩
  have g3 : (M == -1) = false := by rw [beq_eq_false_iff_ne]; exact h3
  by_cases h4 : M < m
  · have g4 : (M < m) = True := by simp [h4]
    rw [show isCnt m M = false by unfold isCnt; rw [if_neg (by omega)]; simp; omega] at hr
    simp only [Bool.false_and] at hr
    rw [hr]
    clear hr hey
    go_enter Tryz.func82, Tryz.ntmps82
    go_wp2
    go_ret
    exact ⟨rfl, hB3 _ _ _⟩
  have g4 : (M < m) = False := by simp; omega
  by_cases h5 : M < 1
  · have g5 : (M < 1) = True := by simp [h5]
    rw [show isCnt m M = false by unfold isCnt; rw [if_neg (by omega)]; simp; omega] at hr
    simp only [Bool.false_and] at hr
    rw [hr]
    clear hr hey
    go_enter Tryz.func82, Tryz.ntmps82
    go_wp2
    go_ret
    exact ⟨rfl, hB3 _ _ _⟩
  have g5 : (M < 1) = False := by simp; omega
  by_cases h6 : 255 < M
  · have g6 : (255 < M) = True := by simp [h6]
    rw [show isCnt m M = false by unfold isCnt; rw [if_neg (by omega)]; simp; omega] at hr
    simp only [Bool.false_and] at hr
    rw [hr]
    clear hr hey
    go_enter Tryz.func82, Tryz.ntmps82
    go_wp2
    go_ret
    exact ⟨rfl, hB3 _ _ _⟩
  · have g6 : (255 < M) = False := by simp; omega
    rw [show isCnt m M = true by unfold isCnt; rw [if_neg (by omega)]; simp; omega] at hr
    simp only [Bool.true_and] at hr
    rw [hr]
    clear hr hey
    cases ey
    · go_enter Tryz.func82, Tryz.ntmps82
      go_wp2
      go_ret
      exact ⟨rfl, hB3 _ _ _⟩
    · go_enter Tryz.func82, Tryz.ntmps82
      go_wp2
      go_ret
      exact ⟨rfl, hB3 _ _ _⟩

set_option maxRecDepth 100000 in
set_option maxHeartbeats 4000000 in
theorem fields_7 (w0 w1 w2 w3 : Nat) (a b m M n : Int) (hx : Nd.Fits ⟨7, w0, w1, w2, w3, a, b, m, M, n⟩) (w : World) :
    Calls Tryz.prog 82 #[.agg #[.int .i64 7, .int .u64 w0, .int .u64 w1, .int .u64 w2, .int .u64 w3, .int .i64 a, .int .i64 b, .int .i64 m, .int .i64 M, .int .i64 n]] w fun e w' => e = .returned (.bool (isNd ⟨7, w0, w1, w2, w3, a, b, m, M, n⟩)) ∧ Below w.heap.size w w' := by
  have fy : Nd.Fits ⟨7, 0, 0, 0, 0, a, 0, 0, 0, n⟩ := ⟨hx.k, (by decide : (0 : Nat) < 18446744073709551616), (by decide : (0 : Nat) < 18446744073709551616), (by decide : (0 : Nat) < 18446744073709551616), (by decide : (0 : Nat) < 18446744073709551616), hx.a, (by decide : -9223372036854775808 ≤ (0 : Int) ∧ (0 : Int) ≤ 9223372036854775807), (by decide : -9223372036854775808 ≤ (0 : Int) ∧ (0 : Int) ≤ 9223372036854775807), (by decide : -9223372036854775808 ≤ (0 : Int) ∧ (0 : Int) ≤ 9223372036854775807), hx.n⟩
  obtain ⟨ey, hey⟩ : ∃ c, c = decide ((⟨7, w0, w1, w2, w3, a, b, m, M, n⟩ : Nd) = (⟨7, 0, 0, 0, 0, a, 0, 0, 0, n⟩ : Nd)) := ⟨_, rfl⟩
  have qy : ∀ w, (Op.equalIn 10000 47 (.agg #[.int .i64 7, .int .u64 0, .int .u64 0, .int .u64 0, .int .u64 0, .int .i64 a, .int .i64 0, .int .i64 0, .int .i64 0, .int .i64 n]) (.agg #[.int .i64 7, .int .u64 w0, .int .u64 w1, .int .u64 w2, .int .u64 w3, .int .i64 a, .int .i64 b, .int .i64 m, .int .i64 M, .int .i64 n])).run Tryz.prog w = .ok ey w := fun w => by
    have := eq_rn (⟨7, 0, 0, 0, 0, a, 0, 0, 0, n⟩ : Nd) (⟨7, w0, w1, w2, w3, a, b, m, M, n⟩ : Nd) fy hx w
    rw [show decide ((⟨7, 0, 0, 0, 0, a, 0, 0, 0, n⟩ : Nd) = (⟨7, w0, w1, w2, w3, a, b, m, M, n⟩ : Nd)) = ey by rw [hey]; exact decide_eq_decide.2 eq_comm] at this
    exact this
  have hr : isNd ⟨7, w0, w1, w2, w3, a, b, m, M, n⟩ = (isNum n && ey) := by rw [hey]; rfl
  have hB3 : ∀ o1 o2 o3, Below w.heap.size w (((w.alloc o1).alloc o2).alloc o3) := fun o1 o2 o3 => (((Below.refl _ w).alloc (Nat.le_refl _) _).alloc (by rw [World.size_alloc]; omega) _).alloc (by rw [World.size_alloc, World.size_alloc]; omega) _
  by_cases h1 : 1 ≤ n
  · have g1 : (1 ≤ n) = True := by simp [h1]
    by_cases h9 : n ≤ 9
    · have g2 : (n ≤ 9) = True := by simp [h9]
      rw [show isNum n = true by unfold isNum; simp; omega, Bool.true_and] at hr
      rw [hr]
      clear hr hey
      cases ey
      · go_enter Tryz.func82, Tryz.ntmps82
        go_wp2
        go_ret
        exact ⟨rfl, hB3 _ _ _⟩
      · go_enter Tryz.func82, Tryz.ntmps82
        go_wp2
        go_ret
        exact ⟨rfl, hB3 _ _ _⟩
    · have g2 : (n ≤ 9) = False := by simp; omega
      rw [show isNum n = false by unfold isNum; simp; omega, Bool.false_and] at hr
      rw [hr]
      clear hr hey
      cases ey
      · go_enter Tryz.func82, Tryz.ntmps82
        go_wp2
        go_ret
        exact ⟨rfl, hB3 _ _ _⟩
      · go_enter Tryz.func82, Tryz.ntmps82
        go_wp2
        go_ret
        exact ⟨rfl, hB3 _ _ _⟩
  · have g1 : (1 ≤ n) = False := by simp; omega
    rw [show isNum n = false by unfold isNum; simp; omega, Bool.false_and] at hr
    rw [hr]
    clear hr hey
    cases ey
    · go_enter Tryz.func82, Tryz.ntmps82
      go_wp2
      go_ret
      exact ⟨rfl, hB3 _ _ _⟩
    · go_enter Tryz.func82, Tryz.ntmps82
      go_wp2
      go_ret
      exact ⟨rfl, hB3 _ _ _⟩

set_option maxRecDepth 100000 in
set_option maxHeartbeats 4000000 in
theorem fields_8 (w0 w1 w2 w3 : Nat) (a b m M n : Int) (hx : Nd.Fits ⟨8, w0, w1, w2, w3, a, b, m, M, n⟩) (w : World) :
    Calls Tryz.prog 82 #[.agg #[.int .i64 8, .int .u64 w0, .int .u64 w1, .int .u64 w2, .int .u64 w3, .int .i64 a, .int .i64 b, .int .i64 m, .int .i64 M, .int .i64 n]] w fun e w' => e = .returned (.bool (isNd ⟨8, w0, w1, w2, w3, a, b, m, M, n⟩)) ∧ Below w.heap.size w w' := by
  have fy : Nd.Fits ⟨8, 0, 0, 0, 0, 0, 0, 0, 0, n⟩ := ⟨hx.k, (by decide : (0 : Nat) < 18446744073709551616), (by decide : (0 : Nat) < 18446744073709551616), (by decide : (0 : Nat) < 18446744073709551616), (by decide : (0 : Nat) < 18446744073709551616), (by decide : -9223372036854775808 ≤ (0 : Int) ∧ (0 : Int) ≤ 9223372036854775807), (by decide : -9223372036854775808 ≤ (0 : Int) ∧ (0 : Int) ≤ 9223372036854775807), (by decide : -9223372036854775808 ≤ (0 : Int) ∧ (0 : Int) ≤ 9223372036854775807), (by decide : -9223372036854775808 ≤ (0 : Int) ∧ (0 : Int) ≤ 9223372036854775807), hx.n⟩
  obtain ⟨ey, hey⟩ : ∃ c, c = decide ((⟨8, w0, w1, w2, w3, a, b, m, M, n⟩ : Nd) = (⟨8, 0, 0, 0, 0, 0, 0, 0, 0, n⟩ : Nd)) := ⟨_, rfl⟩
  have qy : ∀ w, (Op.equalIn 10000 47 (.agg #[.int .i64 8, .int .u64 0, .int .u64 0, .int .u64 0, .int .u64 0, .int .i64 0, .int .i64 0, .int .i64 0, .int .i64 0, .int .i64 n]) (.agg #[.int .i64 8, .int .u64 w0, .int .u64 w1, .int .u64 w2, .int .u64 w3, .int .i64 a, .int .i64 b, .int .i64 m, .int .i64 M, .int .i64 n])).run Tryz.prog w = .ok ey w := fun w => by
    have := eq_rn (⟨8, 0, 0, 0, 0, 0, 0, 0, 0, n⟩ : Nd) (⟨8, w0, w1, w2, w3, a, b, m, M, n⟩ : Nd) fy hx w
    rw [show decide ((⟨8, 0, 0, 0, 0, 0, 0, 0, 0, n⟩ : Nd) = (⟨8, w0, w1, w2, w3, a, b, m, M, n⟩ : Nd)) = ey by rw [hey]; exact decide_eq_decide.2 eq_comm] at this
    exact this
  have hr : isNd ⟨8, w0, w1, w2, w3, a, b, m, M, n⟩ = (isNum n && ey) := by rw [hey]; rfl
  have hB3 : ∀ o1 o2 o3, Below w.heap.size w (((w.alloc o1).alloc o2).alloc o3) := fun o1 o2 o3 => (((Below.refl _ w).alloc (Nat.le_refl _) _).alloc (by rw [World.size_alloc]; omega) _).alloc (by rw [World.size_alloc, World.size_alloc]; omega) _
  by_cases h1 : 1 ≤ n
  · have g1 : (1 ≤ n) = True := by simp [h1]
    by_cases h9 : n ≤ 9
    · have g2 : (n ≤ 9) = True := by simp [h9]
      rw [show isNum n = true by unfold isNum; simp; omega, Bool.true_and] at hr
      rw [hr]
      clear hr hey
      cases ey
      · go_enter Tryz.func82, Tryz.ntmps82
        go_wp2
        go_ret
        exact ⟨rfl, hB3 _ _ _⟩
      · go_enter Tryz.func82, Tryz.ntmps82
        go_wp2
        go_ret
        exact ⟨rfl, hB3 _ _ _⟩
    · have g2 : (n ≤ 9) = False := by simp; omega
      rw [show isNum n = false by unfold isNum; simp; omega, Bool.false_and] at hr
      rw [hr]
      clear hr hey
      cases ey
      · go_enter Tryz.func82, Tryz.ntmps82
        go_wp2
        go_ret
        exact ⟨rfl, hB3 _ _ _⟩
      · go_enter Tryz.func82, Tryz.ntmps82
        go_wp2
        go_ret
        exact ⟨rfl, hB3 _ _ _⟩
  · have g1 : (1 ≤ n) = False := by simp; omega
    rw [show isNum n = false by unfold isNum; simp; omega, Bool.false_and] at hr
    rw [hr]
    clear hr hey
    cases ey
    · go_enter Tryz.func82, Tryz.ntmps82
      go_wp2
      go_ret
      exact ⟨rfl, hB3 _ _ _⟩
    · go_enter Tryz.func82, Tryz.ntmps82
      go_wp2
      go_ret
      exact ⟨rfl, hB3 _ _ _⟩

set_option maxRecDepth 100000 in
set_option maxHeartbeats 4000000 in
theorem fields_o (k : Int) (w0 w1 w2 w3 : Nat) (a b m M n : Int) (hx : Nd.Fits ⟨k, w0, w1, w2, w3, a, b, m, M, n⟩) (hk : k < 0 ∨ 8 < k) (w : World) :
    Calls Tryz.prog 82 #[.agg #[.int .i64 k, .int .u64 w0, .int .u64 w1, .int .u64 w2, .int .u64 w3, .int .i64 a, .int .i64 b, .int .i64 m, .int .i64 M, .int .i64 n]] w fun e w' => e = .returned (.bool (isNd ⟨k, w0, w1, w2, w3, a, b, m, M, n⟩)) ∧ Below w.heap.size w w' := by
  have ne : ∀ v : Int, 0 ≤ v → v ≤ 8 → (k == v) = false := fun v h0 h8 => by
    rw [beq_eq_false_iff_ne]
    intro e
    omega
  have hr : isNd ⟨k, w0, w1, w2, w3, a, b, m, M, n⟩ = false := by
    unfold isNd
    rw [if_neg (by simp only; omega), if_neg (by simp only; omega), if_neg (by simp only; omega), if_neg (by simp only; omega), if_neg (by simp only; omega), if_neg (by simp only; omega)]
  rw [hr]
  have n0 := ne 0 (by omega) (by omega)
  have n1 := ne 1 (by omega) (by omega)
  have n2 := ne 2 (by omega) (by omega)
  have n3 := ne 3 (by omega) (by omega)
  have n4 := ne 4 (by omega) (by omega)
  have n5 := ne 5 (by omega) (by omega)
  have n6 := ne 6 (by omega) (by omega)
  have n7 := ne 7 (by omega) (by omega)
  have n8 := ne 8 (by omega) (by omega)
  clear hr ne
  have hB3 : ∀ o1 o2 o3, Below w.heap.size w (((w.alloc o1).alloc o2).alloc o3) := fun o1 o2 o3 => (((Below.refl _ w).alloc (Nat.le_refl _) _).alloc (by rw [World.size_alloc]; omega) _).alloc (by rw [World.size_alloc, World.size_alloc]; omega) _
  go_enter Tryz.func82, Tryz.ntmps82
  go_wp2
  go_ret
  exact ⟨rfl, hB3 _ _ _⟩

theorem fields_c (x : Nd) (hx : x.Fits) (w : World) :
    Calls Tryz.prog 82 #[x.v] w fun e w' => e = .returned (.bool (isNd x)) ∧ Below w.heap.size w w' := by
  obtain ⟨k, w0, w1, w2, w3, a, b, m, M, n⟩ := x
  by_cases h : k < 0 ∨ 8 < k
  · exact fields_o k w0 w1 w2 w3 a b m M n hx h w
  rcases (by omega : k = 0 ∨ k = 1 ∨ k = 2 ∨ k = 3 ∨ k = 4 ∨ k = 5 ∨ k = 6 ∨ k = 7 ∨ k = 8) with rfl | rfl | rfl | rfl | rfl | rfl | rfl | rfl | rfl
  · exact fields_0 w0 w1 w2 w3 a b m M n hx w
  · exact fields_1 w0 w1 w2 w3 a b m M n hx w
  · exact fields_2 w0 w1 w2 w3 a b m M n hx w
  · exact fields_3 w0 w1 w2 w3 a b m M n hx w
  · exact fields_4 w0 w1 w2 w3 a b m M n hx w
  · exact fields_5 w0 w1 w2 w3 a b m M n hx w
  · exact fields_6 w0 w1 w2 w3 a b m M n hx w
  · exact fields_7 w0 w1 w2 w3 a b m M n hx w
  · exact fields_8 w0 w1 w2 w3 a b m M n hx w

end Go.Proofs.YthbldjiibgnfmaaGreatDoor
