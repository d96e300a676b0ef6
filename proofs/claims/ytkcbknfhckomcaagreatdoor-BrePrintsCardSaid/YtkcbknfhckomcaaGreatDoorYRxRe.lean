/- The reference's fields: what it answers. -/
import Derived.Test.YtkcbknfhckomcaaGreatDoorYRxSm
import Derived.Test.YtkcbknfhckomcaaGreatDoorYRxRd
import Derived.Test.YtkcbknfhckomcaaGreatDoorYRxTb
set_option linter.unusedVariables false
set_option linter.unusedSimpArgs false
set_option maxRecDepth 100000
set_option maxHeartbeats 40000000
namespace Go.Proofs.YtkcbknfhckomcaaGreatDoor
open Go.RowKit
theorem keyA4 : Tryz.prog.keyTypeAt 2 37 = true := by kernel_rfl
theorem formedA4 (a b c d : Int) : (Value.agg #[.int .u64 a, .int .u64 b, .int .u64 c, .int .u64 d]).formed Tryz.prog 37 = true := by
 simp [Value.formed, Tryz.underlying37, cellsA4]
theorem litsA4 (a b c d : Nat) (h0 : a < 18446744073709551616) (h1 : b < 18446744073709551616) (h2 : c < 18446744073709551616) (h3 : d < 18446744073709551616) :
  Tryz.prog.keyLits 3 37 [.int .u64 a, .int .u64 b, .int .u64 c, .int .u64 d] = some [.int .u64 a, .int .u64 b, .int .u64 c, .int .u64 d] := by
 have h0 := wf_u64 h0; have h1 := wf_u64 h1; have h2 := wf_u64 h2; have h3 := wf_u64 h3
 simp [Program.keyLits, Tryz.underlying36, Tryz.underlying37, cellsU, cellsA4, h0, h1, h2, h3, show List.range 4 = [0, 1, 2, 3] from rfl]
theorem eq_zero4 (a b c d : Nat) (h0 : a < 18446744073709551616) (h1 : b < 18446744073709551616) (h2 : c < 18446744073709551616) (h3 : d < 18446744073709551616) (w : World) :
  (Op.equalIn 10000 37 (.agg #[.int .u64 a, .int .u64 b, .int .u64 c, .int .u64 d]) (.agg #[.int .u64 0, .int .u64 0, .int .u64 0, .int .u64 0])).run Tryz.prog w = .ok (decide (a = 0 ∧ b = 0 ∧ c = 0 ∧ d = 0)) w := by
 obtain ⟨r, hr, hiff⟩ := run_equalIn_deep 9998 2 _ keyA4 w 3 3 _ _ _ _ (formedA4 a b c d) (formedA4 (0 : Nat) (0 : Nat) (0 : Nat) (0 : Nat)) (litsA4 a b c d h0 h1 h2 h3) (litsA4 0 0 0 0 (by decide) (by decide) (by decide) (by decide))
 have hr' : (Op.equalIn 10000 37 (.agg #[.int .u64 a, .int .u64 b, .int .u64 c, .int .u64 d]) (.agg #[.int .u64 0, .int .u64 0, .int .u64 0, .int .u64 0])).run Tryz.prog w = .ok r w := hr
 rw [hr']
 congr 1
 rw [Bool.eq_iff_iff, hiff, decide_eq_true_iff]
 simp
theorem fields_0 (w0 w1 w2 w3 : Nat) (a b m M n : Int) (hx : Nd.Fits ⟨0, w0, w1, w2, w3, a, b, m, M, n⟩) (w : World) :
  Calls Tryz.prog 48 #[.agg #[.int .i64 0, .int .u64 w0, .int .u64 w1, .int .u64 w2, .int .u64 w3, .int .i64 a, .int .i64 b, .int .i64 m, .int .i64 M, .int .i64 n]] w fun e w' => e = .returned (.bool (isNd ⟨0, w0, w1, w2, w3, a, b, m, M, n⟩)) ∧ Below w.heap.size w w' := by
 have fy : Nd.Fits ⟨0, 0, 0, 0, 0, 0, 0, 0, 0, 0⟩ := ⟨hx.k, (by decide : (0 : Nat) < 18446744073709551616), (by decide : (0 : Nat) < 18446744073709551616), (by decide : (0 : Nat) < 18446744073709551616), (by decide : (0 : Nat) < 18446744073709551616), (by decide : -9223372036854775808 ≤ (0 : Int) ∧ (0 : Int) ≤ 9223372036854775807), (by decide : -9223372036854775808 ≤ (0 : Int) ∧ (0 : Int) ≤ 9223372036854775807), (by decide : -9223372036854775808 ≤ (0 : Int) ∧ (0 : Int) ≤ 9223372036854775807), (by decide : -9223372036854775808 ≤ (0 : Int) ∧ (0 : Int) ≤ 9223372036854775807), (by decide : -9223372036854775808 ≤ (0 : Int) ∧ (0 : Int) ≤ 9223372036854775807)⟩
 obtain ⟨ey, hey⟩ : ∃ c, c = decide ((⟨0, w0, w1, w2, w3, a, b, m, M, n⟩ : Nd) = (⟨0, 0, 0, 0, 0, 0, 0, 0, 0, 0⟩ : Nd)) := ⟨_, rfl⟩
 have qy : ∀ w, (Op.equalIn 10000 47 (.agg #[.int .i64 0, .int .u64 0, .int .u64 0, .int .u64 0, .int .u64 0, .int .i64 0, .int .i64 0, .int .i64 0, .int .i64 0, .int .i64 0]) (.agg #[.int .i64 0, .int .u64 w0, .int .u64 w1, .int .u64 w2, .int .u64 w3, .int .i64 a, .int .i64 b, .int .i64 m, .int .i64 M, .int .i64 n])).run Tryz.prog w = .ok ey w := fun w => by
  have := eq_rn (⟨0, 0, 0, 0, 0, 0, 0, 0, 0, 0⟩ : Nd) (⟨0, w0, w1, w2, w3, a, b, m, M, n⟩ : Nd) fy hx w
  rw [show decide ((⟨0, 0, 0, 0, 0, 0, 0, 0, 0, 0⟩ : Nd) = (⟨0, w0, w1, w2, w3, a, b, m, M, n⟩ : Nd)) = ey by rw [hey]; exact decide_eq_decide.2 eq_comm] at this
  exact this
 have hr : isNd ⟨0, w0, w1, w2, w3, a, b, m, M, n⟩ = ey := by rw [hey]; rfl
 rw [hr]
 clear hr hey
 have hB3 : ∀ o1 o2 o3, Below w.heap.size w (((w.alloc o1).alloc o2).alloc o3) := fun o1 o2 o3 => (((Below.refl _ w).alloc (Nat.le_refl _) _).alloc (by rw [World.size_alloc]; omega) _).alloc (by rw [World.size_alloc, World.size_alloc]; omega) _
 cases ey
 ·go_enter Tryz.func48, Tryz.ntmps48
  go_wp2
  go_ret
  exact ⟨rfl, hB3 _ _ _⟩
 ·go_enter Tryz.func48, Tryz.ntmps48
  go_wp2
  go_ret
  exact ⟨rfl, hB3 _ _ _⟩
theorem fields_2 (w0 w1 w2 w3 : Nat) (a b m M n : Int) (hx : Nd.Fits ⟨2, w0, w1, w2, w3, a, b, m, M, n⟩) (w : World) :
  Calls Tryz.prog 48 #[.agg #[.int .i64 2, .int .u64 w0, .int .u64 w1, .int .u64 w2, .int .u64 w3, .int .i64 a, .int .i64 b, .int .i64 m, .int .i64 M, .int .i64 n]] w fun e w' => e = .returned (.bool (isNd ⟨2, w0, w1, w2, w3, a, b, m, M, n⟩)) ∧ Below w.heap.size w w' := by
 have fy : Nd.Fits ⟨2, 0, 0, 0, 0, 0, 0, 0, 0, 0⟩ := ⟨hx.k, (by decide : (0 : Nat) < 18446744073709551616), (by decide : (0 : Nat) < 18446744073709551616), (by decide : (0 : Nat) < 18446744073709551616), (by decide : (0 : Nat) < 18446744073709551616), (by decide : -9223372036854775808 ≤ (0 : Int) ∧ (0 : Int) ≤ 9223372036854775807), (by decide : -9223372036854775808 ≤ (0 : Int) ∧ (0 : Int) ≤ 9223372036854775807), (by decide : -9223372036854775808 ≤ (0 : Int) ∧ (0 : Int) ≤ 9223372036854775807), (by decide : -9223372036854775808 ≤ (0 : Int) ∧ (0 : Int) ≤ 9223372036854775807), (by decide : -9223372036854775808 ≤ (0 : Int) ∧ (0 : Int) ≤ 9223372036854775807)⟩
 obtain ⟨ey, hey⟩ : ∃ c, c = decide ((⟨2, w0, w1, w2, w3, a, b, m, M, n⟩ : Nd) = (⟨2, 0, 0, 0, 0, 0, 0, 0, 0, 0⟩ : Nd)) := ⟨_, rfl⟩
 have qy : ∀ w, (Op.equalIn 10000 47 (.agg #[.int .i64 2, .int .u64 0, .int .u64 0, .int .u64 0, .int .u64 0, .int .i64 0, .int .i64 0, .int .i64 0, .int .i64 0, .int .i64 0]) (.agg #[.int .i64 2, .int .u64 w0, .int .u64 w1, .int .u64 w2, .int .u64 w3, .int .i64 a, .int .i64 b, .int .i64 m, .int .i64 M, .int .i64 n])).run Tryz.prog w = .ok ey w := fun w => by
  have := eq_rn (⟨2, 0, 0, 0, 0, 0, 0, 0, 0, 0⟩ : Nd) (⟨2, w0, w1, w2, w3, a, b, m, M, n⟩ : Nd) fy hx w
  rw [show decide ((⟨2, 0, 0, 0, 0, 0, 0, 0, 0, 0⟩ : Nd) = (⟨2, w0, w1, w2, w3, a, b, m, M, n⟩ : Nd)) = ey by rw [hey]; exact decide_eq_decide.2 eq_comm] at this
  exact this
 have hr : isNd ⟨2, w0, w1, w2, w3, a, b, m, M, n⟩ = ey := by rw [hey]; rfl
 rw [hr]
 clear hr hey
 have hB3 : ∀ o1 o2 o3, Below w.heap.size w (((w.alloc o1).alloc o2).alloc o3) := fun o1 o2 o3 => (((Below.refl _ w).alloc (Nat.le_refl _) _).alloc (by rw [World.size_alloc]; omega) _).alloc (by rw [World.size_alloc, World.size_alloc]; omega) _
 cases ey
 ·go_enter Tryz.func48, Tryz.ntmps48
  go_wp2
  go_ret
  exact ⟨rfl, hB3 _ _ _⟩
 ·go_enter Tryz.func48, Tryz.ntmps48
  go_wp2
  go_ret
  exact ⟨rfl, hB3 _ _ _⟩
theorem fields_3 (w0 w1 w2 w3 : Nat) (a b m M n : Int) (hx : Nd.Fits ⟨3, w0, w1, w2, w3, a, b, m, M, n⟩) (w : World) :
  Calls Tryz.prog 48 #[.agg #[.int .i64 3, .int .u64 w0, .int .u64 w1, .int .u64 w2, .int .u64 w3, .int .i64 a, .int .i64 b, .int .i64 m, .int .i64 M, .int .i64 n]] w fun e w' => e = .returned (.bool (isNd ⟨3, w0, w1, w2, w3, a, b, m, M, n⟩)) ∧ Below w.heap.size w w' := by
 have fy : Nd.Fits ⟨3, 0, 0, 0, 0, 0, 0, 0, 0, 0⟩ := ⟨hx.k, (by decide : (0 : Nat) < 18446744073709551616), (by decide : (0 : Nat) < 18446744073709551616), (by decide : (0 : Nat) < 18446744073709551616), (by decide : (0 : Nat) < 18446744073709551616), (by decide : -9223372036854775808 ≤ (0 : Int) ∧ (0 : Int) ≤ 9223372036854775807), (by decide : -9223372036854775808 ≤ (0 : Int) ∧ (0 : Int) ≤ 9223372036854775807), (by decide : -9223372036854775808 ≤ (0 : Int) ∧ (0 : Int) ≤ 9223372036854775807), (by decide : -9223372036854775808 ≤ (0 : Int) ∧ (0 : Int) ≤ 9223372036854775807), (by decide : -9223372036854775808 ≤ (0 : Int) ∧ (0 : Int) ≤ 9223372036854775807)⟩
 obtain ⟨ey, hey⟩ : ∃ c, c = decide ((⟨3, w0, w1, w2, w3, a, b, m, M, n⟩ : Nd) = (⟨3, 0, 0, 0, 0, 0, 0, 0, 0, 0⟩ : Nd)) := ⟨_, rfl⟩
 have qy : ∀ w, (Op.equalIn 10000 47 (.agg #[.int .i64 3, .int .u64 0, .int .u64 0, .int .u64 0, .int .u64 0, .int .i64 0, .int .i64 0, .int .i64 0, .int .i64 0, .int .i64 0]) (.agg #[.int .i64 3, .int .u64 w0, .int .u64 w1, .int .u64 w2, .int .u64 w3, .int .i64 a, .int .i64 b, .int .i64 m, .int .i64 M, .int .i64 n])).run Tryz.prog w = .ok ey w := fun w => by
  have := eq_rn (⟨3, 0, 0, 0, 0, 0, 0, 0, 0, 0⟩ : Nd) (⟨3, w0, w1, w2, w3, a, b, m, M, n⟩ : Nd) fy hx w
  rw [show decide ((⟨3, 0, 0, 0, 0, 0, 0, 0, 0, 0⟩ : Nd) = (⟨3, w0, w1, w2, w3, a, b, m, M, n⟩ : Nd)) = ey by rw [hey]; exact decide_eq_decide.2 eq_comm] at this
  exact this
 have hr : isNd ⟨3, w0, w1, w2, w3, a, b, m, M, n⟩ = ey := by rw [hey]; rfl
 rw [hr]
 clear hr hey
 have hB3 : ∀ o1 o2 o3, Below w.heap.size w (((w.alloc o1).alloc o2).alloc o3) := fun o1 o2 o3 => (((Below.refl _ w).alloc (Nat.le_refl _) _).alloc (by rw [World.size_alloc]; omega) _).alloc (by rw [World.size_alloc, World.size_alloc]; omega) _
 cases ey
 ·go_enter Tryz.func48, Tryz.ntmps48
  go_wp2
  go_ret
  exact ⟨rfl, hB3 _ _ _⟩
 ·go_enter Tryz.func48, Tryz.ntmps48
  go_wp2
  go_ret
  exact ⟨rfl, hB3 _ _ _⟩
theorem fields_1 (w0 w1 w2 w3 : Nat) (a b m M n : Int) (hx : Nd.Fits ⟨1, w0, w1, w2, w3, a, b, m, M, n⟩) (w : World) :
  Calls Tryz.prog 48 #[.agg #[.int .i64 1, .int .u64 w0, .int .u64 w1, .int .u64 w2, .int .u64 w3, .int .i64 a, .int .i64 b, .int .i64 m, .int .i64 M, .int .i64 n]] w fun e w' => e = .returned (.bool (isNd ⟨1, w0, w1, w2, w3, a, b, m, M, n⟩)) ∧ Below w.heap.size w w' := by
 have fy : Nd.Fits ⟨1, w0, w1, w2, w3, 0, 0, 0, 0, 0⟩ := ⟨hx.k, hx.s0, hx.s1, hx.s2, hx.s3, (by decide : -9223372036854775808 ≤ (0 : Int) ∧ (0 : Int) ≤ 9223372036854775807), (by decide : -9223372036854775808 ≤ (0 : Int) ∧ (0 : Int) ≤ 9223372036854775807), (by decide : -9223372036854775808 ≤ (0 : Int) ∧ (0 : Int) ≤ 9223372036854775807), (by decide : -9223372036854775808 ≤ (0 : Int) ∧ (0 : Int) ≤ 9223372036854775807), (by decide : -9223372036854775808 ≤ (0 : Int) ∧ (0 : Int) ≤ 9223372036854775807)⟩
 obtain ⟨ey, hey⟩ : ∃ c, c = decide ((⟨1, w0, w1, w2, w3, a, b, m, M, n⟩ : Nd) = (⟨1, w0, w1, w2, w3, 0, 0, 0, 0, 0⟩ : Nd)) := ⟨_, rfl⟩
 have qy : ∀ w, (Op.equalIn 10000 47 (.agg #[.int .i64 1, .int .u64 w0, .int .u64 w1, .int .u64 w2, .int .u64 w3, .int .i64 0, .int .i64 0, .int .i64 0, .int .i64 0, .int .i64 0]) (.agg #[.int .i64 1, .int .u64 w0, .int .u64 w1, .int .u64 w2, .int .u64 w3, .int .i64 a, .int .i64 b, .int .i64 m, .int .i64 M, .int .i64 n])).run Tryz.prog w = .ok ey w := fun w => by
  have := eq_rn (⟨1, w0, w1, w2, w3, 0, 0, 0, 0, 0⟩ : Nd) (⟨1, w0, w1, w2, w3, a, b, m, M, n⟩ : Nd) fy hx w
  rw [show decide ((⟨1, w0, w1, w2, w3, 0, 0, 0, 0, 0⟩ : Nd) = (⟨1, w0, w1, w2, w3, a, b, m, M, n⟩ : Nd)) = ey by rw [hey]; exact decide_eq_decide.2 eq_comm] at this
  exact this
 obtain ⟨es, hes⟩ : ∃ c, c = decide (w0 = 0 ∧ w1 = 0 ∧ w2 = 0 ∧ w3 = 0) := ⟨_, rfl⟩
 have qs := fun w => eq_zero4 w0 w1 w2 w3 hx.s0 hx.s1 hx.s2 hx.s3 w
 rw [← hes] at qs
 have hr : isNd ⟨1, w0, w1, w2, w3, a, b, m, M, n⟩ = (!es && ey) := by
  rw [hey, hes]
  show (decide (¬ (w0 = 0 ∧ w1 = 0 ∧ w2 = 0 ∧ w3 = 0)) && _) = _
  congr 1
  simp
 rw [hr]
 clear hr hey hes
 have hB3 : ∀ o1 o2 o3, Below w.heap.size w (((w.alloc o1).alloc o2).alloc o3) := fun o1 o2 o3 => (((Below.refl _ w).alloc (Nat.le_refl _) _).alloc (by rw [World.size_alloc]; omega) _).alloc (by rw [World.size_alloc, World.size_alloc]; omega) _
 cases es
 ·simp only [Bool.not_false, Bool.true_and]
  cases ey
  ·go_enter Tryz.func48, Tryz.ntmps48
   go_wp2
   go_ret
   exact ⟨rfl, hB3 _ _ _⟩
  ·go_enter Tryz.func48, Tryz.ntmps48
   go_wp2
   go_ret
   exact ⟨rfl, hB3 _ _ _⟩
 ·simp only [Bool.not_true, Bool.false_and]
  cases ey
  ·go_enter Tryz.func48, Tryz.ntmps48
   go_wp2
   go_ret
   exact ⟨rfl, hB3 _ _ _⟩
  ·go_enter Tryz.func48, Tryz.ntmps48
   go_wp2
   go_ret
   exact ⟨rfl, hB3 _ _ _⟩
theorem fields_4 (w0 w1 w2 w3 : Nat) (a b m M n : Int) (hx : Nd.Fits ⟨4, w0, w1, w2, w3, a, b, m, M, n⟩) (w : World) :
  Calls Tryz.prog 48 #[.agg #[.int .i64 4, .int .u64 w0, .int .u64 w1, .int .u64 w2, .int .u64 w3, .int .i64 a, .int .i64 b, .int .i64 m, .int .i64 M, .int .i64 n]] w fun e w' => e = .returned (.bool (isNd ⟨4, w0, w1, w2, w3, a, b, m, M, n⟩)) ∧ Below w.heap.size w w' := by
 have fy : Nd.Fits ⟨4, 0, 0, 0, 0, a, b, 0, 0, 0⟩ := ⟨hx.k, (by decide : (0 : Nat) < 18446744073709551616), (by decide : (0 : Nat) < 18446744073709551616), (by decide : (0 : Nat) < 18446744073709551616), (by decide : (0 : Nat) < 18446744073709551616), hx.a, hx.b, (by decide : -9223372036854775808 ≤ (0 : Int) ∧ (0 : Int) ≤ 9223372036854775807), (by decide : -9223372036854775808 ≤ (0 : Int) ∧ (0 : Int) ≤ 9223372036854775807), (by decide : -9223372036854775808 ≤ (0 : Int) ∧ (0 : Int) ≤ 9223372036854775807)⟩
 obtain ⟨ey, hey⟩ : ∃ c, c = decide ((⟨4, w0, w1, w2, w3, a, b, m, M, n⟩ : Nd) = (⟨4, 0, 0, 0, 0, a, b, 0, 0, 0⟩ : Nd)) := ⟨_, rfl⟩
 have qy : ∀ w, (Op.equalIn 10000 47 (.agg #[.int .i64 4, .int .u64 0, .int .u64 0, .int .u64 0, .int .u64 0, .int .i64 a, .int .i64 b, .int .i64 0, .int .i64 0, .int .i64 0]) (.agg #[.int .i64 4, .int .u64 w0, .int .u64 w1, .int .u64 w2, .int .u64 w3, .int .i64 a, .int .i64 b, .int .i64 m, .int .i64 M, .int .i64 n])).run Tryz.prog w = .ok ey w := fun w => by
  have := eq_rn (⟨4, 0, 0, 0, 0, a, b, 0, 0, 0⟩ : Nd) (⟨4, w0, w1, w2, w3, a, b, m, M, n⟩ : Nd) fy hx w
  rw [show decide ((⟨4, 0, 0, 0, 0, a, b, 0, 0, 0⟩ : Nd) = (⟨4, w0, w1, w2, w3, a, b, m, M, n⟩ : Nd)) = ey by rw [hey]; exact decide_eq_decide.2 eq_comm] at this
  exact this
 have hr : isNd ⟨4, w0, w1, w2, w3, a, b, m, M, n⟩ = ey := by rw [hey]; rfl
 rw [hr]
 clear hr hey
 have hB3 : ∀ o1 o2 o3, Below w.heap.size w (((w.alloc o1).alloc o2).alloc o3) := fun o1 o2 o3 => (((Below.refl _ w).alloc (Nat.le_refl _) _).alloc (by rw [World.size_alloc]; omega) _).alloc (by rw [World.size_alloc, World.size_alloc]; omega) _
 cases ey
 ·go_enter Tryz.func48, Tryz.ntmps48
  go_wp2
  go_ret
  exact ⟨rfl, hB3 _ _ _⟩
 ·go_enter Tryz.func48, Tryz.ntmps48
  go_wp2
  go_ret
  exact ⟨rfl, hB3 _ _ _⟩
theorem fields_5 (w0 w1 w2 w3 : Nat) (a b m M n : Int) (hx : Nd.Fits ⟨5, w0, w1, w2, w3, a, b, m, M, n⟩) (w : World) :
  Calls Tryz.prog 48 #[.agg #[.int .i64 5, .int .u64 w0, .int .u64 w1, .int .u64 w2, .int .u64 w3, .int .i64 a, .int .i64 b, .int .i64 m, .int .i64 M, .int .i64 n]] w fun e w' => e = .returned (.bool (isNd ⟨5, w0, w1, w2, w3, a, b, m, M, n⟩)) ∧ Below w.heap.size w w' := by
 have fy : Nd.Fits ⟨5, 0, 0, 0, 0, a, b, 0, 0, 0⟩ := ⟨hx.k, (by decide : (0 : Nat) < 18446744073709551616), (by decide : (0 : Nat) < 18446744073709551616), (by decide : (0 : Nat) < 18446744073709551616), (by decide : (0 : Nat) < 18446744073709551616), hx.a, hx.b, (by decide : -9223372036854775808 ≤ (0 : Int) ∧ (0 : Int) ≤ 9223372036854775807), (by decide : -9223372036854775808 ≤ (0 : Int) ∧ (0 : Int) ≤ 9223372036854775807), (by decide : -9223372036854775808 ≤ (0 : Int) ∧ (0 : Int) ≤ 9223372036854775807)⟩
 obtain ⟨ey, hey⟩ : ∃ c, c = decide ((⟨5, w0, w1, w2, w3, a, b, m, M, n⟩ : Nd) = (⟨5, 0, 0, 0, 0, a, b, 0, 0, 0⟩ : Nd)) := ⟨_, rfl⟩
 have qy : ∀ w, (Op.equalIn 10000 47 (.agg #[.int .i64 5, .int .u64 0, .int .u64 0, .int .u64 0, .int .u64 0, .int .i64 a, .int .i64 b, .int .i64 0, .int .i64 0, .int .i64 0]) (.agg #[.int .i64 5, .int .u64 w0, .int .u64 w1, .int .u64 w2, .int .u64 w3, .int .i64 a, .int .i64 b, .int .i64 m, .int .i64 M, .int .i64 n])).run Tryz.prog w = .ok ey w := fun w => by
  have := eq_rn (⟨5, 0, 0, 0, 0, a, b, 0, 0, 0⟩ : Nd) (⟨5, w0, w1, w2, w3, a, b, m, M, n⟩ : Nd) fy hx w
  rw [show decide ((⟨5, 0, 0, 0, 0, a, b, 0, 0, 0⟩ : Nd) = (⟨5, w0, w1, w2, w3, a, b, m, M, n⟩ : Nd)) = ey by rw [hey]; exact decide_eq_decide.2 eq_comm] at this
  exact this
 have hr : isNd ⟨5, w0, w1, w2, w3, a, b, m, M, n⟩ = ey := by rw [hey]; rfl
 rw [hr]
 clear hr hey
 have hB3 : ∀ o1 o2 o3, Below w.heap.size w (((w.alloc o1).alloc o2).alloc o3) := fun o1 o2 o3 => (((Below.refl _ w).alloc (Nat.le_refl _) _).alloc (by rw [World.size_alloc]; omega) _).alloc (by rw [World.size_alloc, World.size_alloc]; omega) _
 cases ey
 ·go_enter Tryz.func48, Tryz.ntmps48
  go_wp2
  go_ret
  exact ⟨rfl, hB3 _ _ _⟩
 ·go_enter Tryz.func48, Tryz.ntmps48
  go_wp2
  go_ret
  exact ⟨rfl, hB3 _ _ _⟩
theorem fields_6 (w0 w1 w2 w3 : Nat) (a b m M n : Int) (hx : Nd.Fits ⟨6, w0, w1, w2, w3, a, b, m, M, n⟩) (w : World) :
  Calls Tryz.prog 48 #[.agg #[.int .i64 6, .int .u64 w0, .int .u64 w1, .int .u64 w2, .int .u64 w3, .int .i64 a, .int .i64 b, .int .i64 m, .int .i64 M, .int .i64 n]] w fun e w' => e = .returned (.bool (isNd ⟨6, w0, w1, w2, w3, a, b, m, M, n⟩)) ∧ Below w.heap.size w w' := by
 have fy : Nd.Fits ⟨6, 0, 0, 0, 0, a, 0, m, M, 0⟩ := ⟨hx.k, (by decide : (0 : Nat) < 18446744073709551616), (by decide : (0 : Nat) < 18446744073709551616), (by decide : (0 : Nat) < 18446744073709551616), (by decide : (0 : Nat) < 18446744073709551616), hx.a, (by decide : -9223372036854775808 ≤ (0 : Int) ∧ (0 : Int) ≤ 9223372036854775807), hx.mn, hx.mx, (by decide : -9223372036854775808 ≤ (0 : Int) ∧ (0 : Int) ≤ 9223372036854775807)⟩
 obtain ⟨ey, hey⟩ : ∃ c, c = decide ((⟨6, w0, w1, w2, w3, a, b, m, M, n⟩ : Nd) = (⟨6, 0, 0, 0, 0, a, 0, m, M, 0⟩ : Nd)) := ⟨_, rfl⟩
 have qy : ∀ w, (Op.equalIn 10000 47 (.agg #[.int .i64 6, .int .u64 0, .int .u64 0, .int .u64 0, .int .u64 0, .int .i64 a, .int .i64 0, .int .i64 m, .int .i64 M, .int .i64 0]) (.agg #[.int .i64 6, .int .u64 w0, .int .u64 w1, .int .u64 w2, .int .u64 w3, .int .i64 a, .int .i64 b, .int .i64 m, .int .i64 M, .int .i64 n])).run Tryz.prog w = .ok ey w := fun w => by
  have := eq_rn (⟨6, 0, 0, 0, 0, a, 0, m, M, 0⟩ : Nd) (⟨6, w0, w1, w2, w3, a, b, m, M, n⟩ : Nd) fy hx w
  rw [show decide ((⟨6, 0, 0, 0, 0, a, 0, m, M, 0⟩ : Nd) = (⟨6, w0, w1, w2, w3, a, b, m, M, n⟩ : Nd)) = ey by rw [hey]; exact decide_eq_decide.2 eq_comm] at this
  exact this
 have hr : isNd ⟨6, w0, w1, w2, w3, a, b, m, M, n⟩ = (isCnt m M && ey) := by rw [hey]; rfl
 have hB3 : ∀ o1 o2 o3, Below w.heap.size w (((w.alloc o1).alloc o2).alloc o3) := fun o1 o2 o3 => (((Below.refl _ w).alloc (Nat.le_refl _) _).alloc (by rw [World.size_alloc]; omega) _).alloc (by rw [World.size_alloc, World.size_alloc]; omega) _
 by_cases h1 : m < 0
 ·have g1 : (m < 0) = True := by simp [h1]
  rw [show isCnt m M = false by unfold isCnt; rw [if_pos (by omega)]] at hr
  simp only [Bool.false_and] at hr
  rw [hr]
  clear hr hey
  go_enter Tryz.func48, Tryz.ntmps48
  go_wp2
  go_ret
  exact ⟨rfl, hB3 _ _ _⟩
 by_cases h2 : 255 < m
 ·have g1 : (m < 0) = False := by simp; omega
  have g2 : (255 < m) = True := by simp [h2]
  rw [show isCnt m M = false by unfold isCnt; rw [if_pos (by omega)]] at hr
  simp only [Bool.false_and] at hr
  rw [hr]
  clear hr hey
  go_enter Tryz.func48, Tryz.ntmps48
  go_wp2
  go_ret
  exact ⟨rfl, hB3 _ _ _⟩
 have g1 : (m < 0) = False := by simp; omega
 have g2 : (255 < m) = False := by simp; omega
 by_cases h3 : M = -1
 ·subst h3
  rw [show isCnt m (-1) = true by unfold isCnt; rw [if_neg (by omega)]; simp] at hr
  simp only [Bool.true_and] at hr
  rw [hr]
  clear hr hey
  cases ey
  ·go_enter Tryz.func48, Tryz.ntmps48
   go_wp2
   go_ret
   exact ⟨rfl, hB3 _ _ _⟩
  ·go_enter Tryz.func48, Tryz.ntmps48
   go_wp2
   go_ret
   exact ⟨rfl, hB3 _ _ _⟩
 have g3 : (M == -1) = false := by rw [beq_eq_false_iff_ne]; exact h3
 by_cases h4 : M < m
 ·have g4 : (M < m) = True := by simp [h4]
  rw [show isCnt m M = false by unfold isCnt; rw [if_neg (by omega)]; simp; omega] at hr
  simp only [Bool.false_and] at hr
  rw [hr]
  clear hr hey
  go_enter Tryz.func48, Tryz.ntmps48
  go_wp2
  go_ret
  exact ⟨rfl, hB3 _ _ _⟩
 have g4 : (M < m) = False := by simp; omega
 by_cases h5 : M < 1
 ·have g5 : (M < 1) = True := by simp [h5]
  rw [show isCnt m M = false by unfold isCnt; rw [if_neg (by omega)]; simp; omega] at hr
  simp only [Bool.false_and] at hr
  rw [hr]
  clear hr hey
  go_enter Tryz.func48, Tryz.ntmps48
  go_wp2
  go_ret
  exact ⟨rfl, hB3 _ _ _⟩
 have g5 : (M < 1) = False := by simp; omega
 by_cases h6 : 255 < M
 ·have g6 : (255 < M) = True := by simp [h6]
  rw [show isCnt m M = false by unfold isCnt; rw [if_neg (by omega)]; simp; omega] at hr
  simp only [Bool.false_and] at hr
  rw [hr]
  clear hr hey
  go_enter Tryz.func48, Tryz.ntmps48
  go_wp2
  go_ret
  exact ⟨rfl, hB3 _ _ _⟩
 ·have g6 : (255 < M) = False := by simp; omega
  rw [show isCnt m M = true by unfold isCnt; rw [if_neg (by omega)]; simp; omega] at hr
  simp only [Bool.true_and] at hr
  rw [hr]
  clear hr hey
  cases ey
  ·go_enter Tryz.func48, Tryz.ntmps48
   go_wp2
   go_ret
   exact ⟨rfl, hB3 _ _ _⟩
  ·go_enter Tryz.func48, Tryz.ntmps48
   go_wp2
   go_ret
   exact ⟨rfl, hB3 _ _ _⟩
theorem fields_7 (w0 w1 w2 w3 : Nat) (a b m M n : Int) (hx : Nd.Fits ⟨7, w0, w1, w2, w3, a, b, m, M, n⟩) (w : World) :
  Calls Tryz.prog 48 #[.agg #[.int .i64 7, .int .u64 w0, .int .u64 w1, .int .u64 w2, .int .u64 w3, .int .i64 a, .int .i64 b, .int .i64 m, .int .i64 M, .int .i64 n]] w fun e w' => e = .returned (.bool (isNd ⟨7, w0, w1, w2, w3, a, b, m, M, n⟩)) ∧ Below w.heap.size w w' := by
 have fy : Nd.Fits ⟨7, 0, 0, 0, 0, a, 0, 0, 0, n⟩ := ⟨hx.k, (by decide : (0 : Nat) < 18446744073709551616), (by decide : (0 : Nat) < 18446744073709551616), (by decide : (0 : Nat) < 18446744073709551616), (by decide : (0 : Nat) < 18446744073709551616), hx.a, (by decide : -9223372036854775808 ≤ (0 : Int) ∧ (0 : Int) ≤ 9223372036854775807), (by decide : -9223372036854775808 ≤ (0 : Int) ∧ (0 : Int) ≤ 9223372036854775807), (by decide : -9223372036854775808 ≤ (0 : Int) ∧ (0 : Int) ≤ 9223372036854775807), hx.n⟩
 obtain ⟨ey, hey⟩ : ∃ c, c = decide ((⟨7, w0, w1, w2, w3, a, b, m, M, n⟩ : Nd) = (⟨7, 0, 0, 0, 0, a, 0, 0, 0, n⟩ : Nd)) := ⟨_, rfl⟩
 have qy : ∀ w, (Op.equalIn 10000 47 (.agg #[.int .i64 7, .int .u64 0, .int .u64 0, .int .u64 0, .int .u64 0, .int .i64 a, .int .i64 0, .int .i64 0, .int .i64 0, .int .i64 n]) (.agg #[.int .i64 7, .int .u64 w0, .int .u64 w1, .int .u64 w2, .int .u64 w3, .int .i64 a, .int .i64 b, .int .i64 m, .int .i64 M, .int .i64 n])).run Tryz.prog w = .ok ey w := fun w => by
  have := eq_rn (⟨7, 0, 0, 0, 0, a, 0, 0, 0, n⟩ : Nd) (⟨7, w0, w1, w2, w3, a, b, m, M, n⟩ : Nd) fy hx w
  rw [show decide ((⟨7, 0, 0, 0, 0, a, 0, 0, 0, n⟩ : Nd) = (⟨7, w0, w1, w2, w3, a, b, m, M, n⟩ : Nd)) = ey by rw [hey]; exact decide_eq_decide.2 eq_comm] at this
  exact this
 have hr : isNd ⟨7, w0, w1, w2, w3, a, b, m, M, n⟩ = (isNum n && ey) := by rw [hey]; rfl
 have hB3 : ∀ o1 o2 o3, Below w.heap.size w (((w.alloc o1).alloc o2).alloc o3) := fun o1 o2 o3 => (((Below.refl _ w).alloc (Nat.le_refl _) _).alloc (by rw [World.size_alloc]; omega) _).alloc (by rw [World.size_alloc, World.size_alloc]; omega) _
 by_cases h1 : 1 ≤ n
 ·have g1 : (1 ≤ n) = True := by simp [h1]
  by_cases h9 : n ≤ 9
  ·have g2 : (n ≤ 9) = True := by simp [h9]
   rw [show isNum n = true by unfold isNum; simp; omega, Bool.true_and] at hr
   rw [hr]
   clear hr hey
   cases ey
   ·go_enter Tryz.func48, Tryz.ntmps48
    go_wp2
    go_ret
    exact ⟨rfl, hB3 _ _ _⟩
   ·go_enter Tryz.func48, Tryz.ntmps48
    go_wp2
    go_ret
    exact ⟨rfl, hB3 _ _ _⟩
  ·have g2 : (n ≤ 9) = False := by simp; omega
   rw [show isNum n = false by unfold isNum; simp; omega, Bool.false_and] at hr
   rw [hr]
   clear hr hey
   cases ey
   ·go_enter Tryz.func48, Tryz.ntmps48
    go_wp2
    go_ret
    exact ⟨rfl, hB3 _ _ _⟩
   ·go_enter Tryz.func48, Tryz.ntmps48
    go_wp2
    go_ret
    exact ⟨rfl, hB3 _ _ _⟩
 ·have g1 : (1 ≤ n) = False := by simp; omega
  rw [show isNum n = false by unfold isNum; simp; omega, Bool.false_and] at hr
  rw [hr]
  clear hr hey
  cases ey
  ·go_enter Tryz.func48, Tryz.ntmps48
   go_wp2
   go_ret
   exact ⟨rfl, hB3 _ _ _⟩
  ·go_enter Tryz.func48, Tryz.ntmps48
   go_wp2
   go_ret
   exact ⟨rfl, hB3 _ _ _⟩
theorem fields_8 (w0 w1 w2 w3 : Nat) (a b m M n : Int) (hx : Nd.Fits ⟨8, w0, w1, w2, w3, a, b, m, M, n⟩) (w : World) :
  Calls Tryz.prog 48 #[.agg #[.int .i64 8, .int .u64 w0, .int .u64 w1, .int .u64 w2, .int .u64 w3, .int .i64 a, .int .i64 b, .int .i64 m, .int .i64 M, .int .i64 n]] w fun e w' => e = .returned (.bool (isNd ⟨8, w0, w1, w2, w3, a, b, m, M, n⟩)) ∧ Below w.heap.size w w' := by
 have fy : Nd.Fits ⟨8, 0, 0, 0, 0, 0, 0, 0, 0, n⟩ := ⟨hx.k, (by decide : (0 : Nat) < 18446744073709551616), (by decide : (0 : Nat) < 18446744073709551616), (by decide : (0 : Nat) < 18446744073709551616), (by decide : (0 : Nat) < 18446744073709551616), (by decide : -9223372036854775808 ≤ (0 : Int) ∧ (0 : Int) ≤ 9223372036854775807), (by decide : -9223372036854775808 ≤ (0 : Int) ∧ (0 : Int) ≤ 9223372036854775807), (by decide : -9223372036854775808 ≤ (0 : Int) ∧ (0 : Int) ≤ 9223372036854775807), (by decide : -9223372036854775808 ≤ (0 : Int) ∧ (0 : Int) ≤ 9223372036854775807), hx.n⟩
 obtain ⟨ey, hey⟩ : ∃ c, c = decide ((⟨8, w0, w1, w2, w3, a, b, m, M, n⟩ : Nd) = (⟨8, 0, 0, 0, 0, 0, 0, 0, 0, n⟩ : Nd)) := ⟨_, rfl⟩
 have qy : ∀ w, (Op.equalIn 10000 47 (.agg #[.int .i64 8, .int .u64 0, .int .u64 0, .int .u64 0, .int .u64 0, .int .i64 0, .int .i64 0, .int .i64 0, .int .i64 0, .int .i64 n]) (.agg #[.int .i64 8, .int .u64 w0, .int .u64 w1, .int .u64 w2, .int .u64 w3, .int .i64 a, .int .i64 b, .int .i64 m, .int .i64 M, .int .i64 n])).run Tryz.prog w = .ok ey w := fun w => by
  have := eq_rn (⟨8, 0, 0, 0, 0, 0, 0, 0, 0, n⟩ : Nd) (⟨8, w0, w1, w2, w3, a, b, m, M, n⟩ : Nd) fy hx w
  rw [show decide ((⟨8, 0, 0, 0, 0, 0, 0, 0, 0, n⟩ : Nd) = (⟨8, w0, w1, w2, w3, a, b, m, M, n⟩ : Nd)) = ey by rw [hey]; exact decide_eq_decide.2 eq_comm] at this
  exact this
 have hr : isNd ⟨8, w0, w1, w2, w3, a, b, m, M, n⟩ = (isNum n && ey) := by rw [hey]; rfl
 have hB3 : ∀ o1 o2 o3, Below w.heap.size w (((w.alloc o1).alloc o2).alloc o3) := fun o1 o2 o3 => (((Below.refl _ w).alloc (Nat.le_refl _) _).alloc (by rw [World.size_alloc]; omega) _).alloc (by rw [World.size_alloc, World.size_alloc]; omega) _
 by_cases h1 : 1 ≤ n
 ·have g1 : (1 ≤ n) = True := by simp [h1]
  by_cases h9 : n ≤ 9
  ·have g2 : (n ≤ 9) = True := by simp [h9]
   rw [show isNum n = true by unfold isNum; simp; omega, Bool.true_and] at hr
   rw [hr]
   clear hr hey
   cases ey
   ·go_enter Tryz.func48, Tryz.ntmps48
    go_wp2
    go_ret
    exact ⟨rfl, hB3 _ _ _⟩
   ·go_enter Tryz.func48, Tryz.ntmps48
    go_wp2
    go_ret
    exact ⟨rfl, hB3 _ _ _⟩
  ·have g2 : (n ≤ 9) = False := by simp; omega
   rw [show isNum n = false by unfold isNum; simp; omega, Bool.false_and] at hr
   rw [hr]
   clear hr hey
   cases ey
   ·go_enter Tryz.func48, Tryz.ntmps48
    go_wp2
    go_ret
    exact ⟨rfl, hB3 _ _ _⟩
   ·go_enter Tryz.func48, Tryz.ntmps48
    go_wp2
    go_ret
    exact ⟨rfl, hB3 _ _ _⟩
 ·have g1 : (1 ≤ n) = False := by simp; omega
  rw [show isNum n = false by unfold isNum; simp; omega, Bool.false_and] at hr
  rw [hr]
  clear hr hey
  cases ey
  ·go_enter Tryz.func48, Tryz.ntmps48
   go_wp2
   go_ret
   exact ⟨rfl, hB3 _ _ _⟩
  ·go_enter Tryz.func48, Tryz.ntmps48
   go_wp2
   go_ret
   exact ⟨rfl, hB3 _ _ _⟩
theorem fields_o (k : Int) (w0 w1 w2 w3 : Nat) (a b m M n : Int) (hx : Nd.Fits ⟨k, w0, w1, w2, w3, a, b, m, M, n⟩) (hk : k < 0 ∨ 8 < k) (w : World) :
  Calls Tryz.prog 48 #[.agg #[.int .i64 k, .int .u64 w0, .int .u64 w1, .int .u64 w2, .int .u64 w3, .int .i64 a, .int .i64 b, .int .i64 m, .int .i64 M, .int .i64 n]] w fun e w' => e = .returned (.bool (isNd ⟨k, w0, w1, w2, w3, a, b, m, M, n⟩)) ∧ Below w.heap.size w w' := by
 have ne : ∀ v : Int, 0 ≤ v → v ≤ 8 → (k == v) = false := fun v h0 h8 => by
  rw [beq_eq_false_iff_ne]
  intro e
  omega
 have hr : isNd ⟨k, w0, w1, w2, w3, a, b, m, M, n⟩ = false := by
  unfold isNd
  rw [if_neg (by simp only; omega), if_neg (by simp only; omega), if_neg (by simp only; omega), if_neg (by simp only; omega), if_neg (by simp only; omega), if_neg (by simp only; omega)]
 rw [hr]
 have n0 := ne 0 (by omega) (by omega)
 have n1 := ne 1 (by omega) (by omega)
 have n2 := ne 2 (by omega) (by omega)
 have n3 := ne 3 (by omega) (by omega)
 have n4 := ne 4 (by omega) (by omega)
 have n5 := ne 5 (by omega) (by omega)
 have n6 := ne 6 (by omega) (by omega)
 have n7 := ne 7 (by omega) (by omega)
 have n8 := ne 8 (by omega) (by omega)
 clear hr ne
 have hB3 : ∀ o1 o2 o3, Below w.heap.size w (((w.alloc o1).alloc o2).alloc o3) := fun o1 o2 o3 => (((Below.refl _ w).alloc (Nat.le_refl _) _).alloc (by rw [World.size_alloc]; omega) _).alloc (by rw [World.size_alloc, World.size_alloc]; omega) _
 go_enter Tryz.func48, Tryz.ntmps48
 go_wp2
 go_ret
 exact ⟨rfl, hB3 _ _ _⟩
theorem fields_c (x : Nd) (hx : x.Fits) (w : World) :
  Calls Tryz.prog 48 #[x.v] w fun e w' => e = .returned (.bool (isNd x)) ∧ Below w.heap.size w w' := by
 obtain ⟨k, w0, w1, w2, w3, a, b, m, M, n⟩ := x
 by_cases h : k < 0 ∨ 8 < k
 ·exact fields_o k w0 w1 w2 w3 a b m M n hx h w
 rcases (by omega : k = 0 ∨ k = 1 ∨ k = 2 ∨ k = 3 ∨ k = 4 ∨ k = 5 ∨ k = 6 ∨ k = 7 ∨ k = 8) with rfl | rfl | rfl | rfl | rfl | rfl | rfl | rfl | rfl
 ·exact fields_0 w0 w1 w2 w3 a b m M n hx w
 ·exact fields_1 w0 w1 w2 w3 a b m M n hx w
 ·exact fields_2 w0 w1 w2 w3 a b m M n hx w
 ·exact fields_3 w0 w1 w2 w3 a b m M n hx w
 ·exact fields_4 w0 w1 w2 w3 a b m M n hx w
 ·exact fields_5 w0 w1 w2 w3 a b m M n hx w
 ·exact fields_6 w0 w1 w2 w3 a b m M n hx w
 ·exact fields_7 w0 w1 w2 w3 a b m M n hx w
 ·exact fields_8 w0 w1 w2 w3 a b m M n hx w
end Go.Proofs.YtkcbknfhckomcaaGreatDoor
namespace Go.Proofs.YtkcbknfhckomcaaGreatDoor
open Go.RowKit
structure Wk where
 g : Bool
 k : Nat
 en : Nat → Bool
 r : Bool
def Wk.cells (W : Wk) : Array Value := #[.bool W.g, .int .i64 W.k, .bool (W.en 0), .bool (W.en 1), .bool (W.en 2), .bool (W.en 3), .bool (W.en 4), .bool (W.en 5), .bool (W.en 6), .bool (W.en 7), .bool (W.en 8), .bool (W.en 9), .bool W.r]
theorem infoWk : (Tryz.prog.info? 62).map (fun i => (i.zero, i.size)) = some (some (.agg #[.bool false, .int .i64 0, .bool false, .bool false, .bool false, .bool false, .bool false, .bool false, .bool false, .bool false, .bool false, .bool false, .bool false]), 13) := by kernel_rfl
theorem sizeWk : (Tryz.prog.info? 62).map (·.size) = some 13 := (zero_of_info infoWk).2
theorem Wk.cells_size (W : Wk) : W.cells.size = 13 := rfl
theorem Wk.cells_all (W : Wk) : W.cells.all (·.oneCell') = true := by simp [Wk.cells, Value.oneCell']
structure WB (w : World) (b : Nat) (v : Array Value) : Prop where
 heap : w.heap[b]? = some (.cells v 62 (0, 0))
section
variable {w w' : World} {b : Nat} {v : Array Value}
theorem WB.lt (h : WB w b v) : b < w.heap.size := (Array.getElem?_eq_some_iff.1 h.heap).1
theorem WB.below {B : Nat} (h : WB w b v) (hB : Below B w w') (hb : b < B) : WB w' b v := ⟨(hB.block b hb).trans h.heap⟩
theorem WB.load (h : WB w b v) (hs : v.size = 13) : (loadVar 62 ⟨b, 0, none⟩).run Tryz.prog w = .ok (.agg v) w :=
 run_loadVar_row w b 62 62 v (0, 0) _ h.heap Tryz.underlying62 rfl (by rw [sizeWk, hs])
theorem WB.store (h : WB w b v) (hs : v.size = 13) (W : Wk) : (storeVar 62 ⟨b, 0, none⟩ (.agg W.cells)).run Tryz.prog w = .ok () (w.setRow b W.cells) :=
 run_storeVar_row w b 62 62 v W.cells h.heap (by rw [sizeWk, W.cells_size]) (by rw [hs, W.cells_size]) W.cells_all
theorem WB.storeCells (h : WB w b v) (hs : v.size = 13) (W : Wk) : (storeCells ⟨b, 0, none⟩ W.cells.toList).run Tryz.prog w = .ok () (w.setRow b W.cells) := by
 have := h.store hs W
 have hz := sizeWk
 cases hq : Tryz.prog.info? 62 with
 | none => simp [hq] at hz
 | some i =>
  have h2 : i.size = 13 := by simpa [hq] using hz
  simpa [storeVar, sizeOf, typeInfo, hq, Value.cells, h2, W.cells_size] using this
theorem WB.put (h : WB w b v) (v' : Array Value) : WB (w.setRow b v') b v' := ⟨by
 obtain ⟨hlt, hk⟩ := Array.getElem?_eq_some_iff.1 h.heap
 show (w.heap.modify b _)[b]? = _
 rw [Array.getElem?_eq_getElem (by rw [Array.size_modify]; exact hlt), Array.getElem_modify_self, hk]⟩
theorem WB.cell (h : WB w b v) (j : Nat) : w.cell? ⟨b, j, none⟩ = v[j]? := cell_of _ _ _ _ h.heap j
theorem WB.fz (h : WB w b v) (j : Nat) : w.frozen? ⟨b, j, none⟩ = false := frozen_of _ _ _ _ h.heap j
end
def rk : T → Int
 | .leaf x => x.kind
 | .two k _ _ => k
 | .times _ _ _ => 6
 | .group _ _ => 7
theorem rk_root (t : T) (o : Nat) : (t.root o).kind = rk t := by cases t <;> rfl
def okTwo (k : Int) (a b : T) : Bool := if k = 4 then !(decide (rk a = 4) || decide (rk a = 5) || decide (rk b = 5)) else !decide (rk a = 5)
def okTimes (t : T) : Bool := decide (rk t = 1) || decide (rk t = 7) || decide (rk t = 8)
def thr (one : Bool) : T → Wk → Wk
 | .leaf x, W => if x.kind = 8 then ⟨W.g && W.en x.n.toNat, W.k, W.en, true⟩ else if x.kind = 0 then ⟨W.g && one, W.k, W.en, W.r⟩ else W
 | .two k a b, W => thr one b (thr one a ⟨W.g && okTwo k a b, W.k, W.en, W.r⟩)
 | .times m M t, W => thr one t ⟨W.g && okTimes t, W.k, W.en, W.r⟩
 | .group n t, W => ⟨(thr one t ⟨W.g && decide (((W.k : Int) + 1) = n), W.k + 1, W.en, W.r⟩).g, (thr one t ⟨W.g && decide (((W.k : Int) + 1) = n), W.k + 1, W.en, W.r⟩).k, fun i => if i = n.toNat then true else (thr one t ⟨W.g && decide (((W.k : Int) + 1) = n), W.k + 1, W.en, W.r⟩).en i, (thr one t ⟨W.g && decide (((W.k : Int) + 1) = n), W.k + 1, W.en, W.r⟩).r⟩
def tOk (one : Bool) : T → Prop
 | .leaf x => x.kind = 0 → one = true
 | .two k a b => okTwo k a b = true ∧ tOk one a ∧ tOk one b
 | .times m M t => okTimes t = true ∧ tOk one t
 | .group n t => tOk one t
theorem thr_k (one : Bool) : ∀ (t : T) (W : Wk), (thr one t W).k = W.k + t.groups
 | .leaf x, W => by
  simp only [thr, T.groups]
  split
  ·rfl
  ·split <;> rfl
 | .two k a b, W => by simp only [thr, T.groups, thr_k one a, thr_k one b]; omega
 | .times m M t, W => by simp only [thr, T.groups, thr_k one t]
 | .group n t, W => by simp only [thr, T.groups, thr_k one t]; omega
theorem thr_r (one : Bool) : ∀ (t : T) (W : Wk), ((thr one t W).r = true ↔ W.r = true ∨ 0 < t.refs)
 | .leaf x, W => by
  simp only [thr, T.refs]
  by_cases h8 : x.kind = 8
  ·rw [if_pos h8, if_pos h8]; simp
  ·rw [if_neg h8, if_neg h8]
   split <;> simp
 | .two k a b, W => by
  have h1 := thr_r one a ⟨W.g && okTwo k a b, W.k, W.en, W.r⟩
  have h2 := thr_r one b (thr one a ⟨W.g && okTwo k a b, W.k, W.en, W.r⟩)
  have e : (T.two k a b).refs = a.refs + b.refs := rfl
  rw [e]
  show (thr one b (thr one a ⟨W.g && okTwo k a b, W.k, W.en, W.r⟩)).r = true ↔ _
  rw [h2, h1]
  constructor
  ·rintro ((h | h) | h)
   ·exact .inl h
   ·exact .inr (by omega)
   ·exact .inr (by omega)
  ·rintro (h | h)
   ·exact .inl (.inl h)
   ·by_cases q : 0 < a.refs
    ·exact .inl (.inr q)
    ·exact .inr (by omega)
 | .times m M t, W => thr_r one t ⟨W.g && okTimes t, W.k, W.en, W.r⟩
 | .group n t, W => thr_r one t ⟨W.g && decide (((W.k : Int) + 1) = n), W.k + 1, W.en, W.r⟩
theorem thr_good (one : Bool) : ∀ (t : T) (W : Wk), ((thr one t W).g = true ↔ W.g = true ∧ tOk one t ∧ (num t (W.k, W.en)).isSome = true) ∧ (∀ u, num t (W.k, W.en) = some u → (thr one t W).k = u.1 ∧ (thr one t W).en = u.2)
 | .leaf x, W => by
  simp only [thr, tOk, num]
  by_cases h8 : x.kind = 8
  ·rw [if_pos h8, if_pos h8]
   have h0 : x.kind ≠ 0 := by omega
   by_cases he : W.en x.n.toNat = true
   ·rw [if_pos he]
    simp [he, h0]
   ·rw [if_neg he]
    simp [he]
  ·rw [if_neg h8, if_neg h8]
   by_cases h0 : x.kind = 0
   ·rw [if_pos h0]
    simp [h0]
   ·rw [if_neg h0]
    simp [h0]
 | .two k a b, W => by
  have iha := thr_good one a ⟨W.g && okTwo k a b, W.k, W.en, W.r⟩
  have ihb := thr_good one b (thr one a ⟨W.g && okTwo k a b, W.k, W.en, W.r⟩)
  simp only at iha
  simp only [thr, tOk, num]
  generalize thr one a ⟨W.g && okTwo k a b, W.k, W.en, W.r⟩ = U at *
  cases hn : num a (W.k, W.en) with
  | none =>
   rw [hn] at iha
   refine ⟨?_, fun u h => by simp at h⟩
   rw [ihb.1, iha.1]
   simp
  | some v =>
   obtain ⟨e1, e2⟩ := iha.2 v hn
   rw [hn] at iha
   have ev : (U.k, U.en) = v := by rw [e1, e2]
   rw [ev] at ihb
   refine ⟨?_, fun u h => ihb.2 u (by simpa using h)⟩
   rw [ihb.1, iha.1]
   simp [and_assoc]
 | .times m M t, W => by
  have ih := thr_good one t ⟨W.g && okTimes t, W.k, W.en, W.r⟩
  simp only at ih
  simp only [thr, tOk, num]
  refine ⟨?_, ih.2⟩
  rw [ih.1]
  simp [and_assoc]
 | .group n t, W => by
  have ih := thr_good one t ⟨W.g && decide (((W.k : Int) + 1) = n), W.k + 1, W.en, W.r⟩
  simp only at ih
  simp only [thr, tOk, num]
  generalize thr one t ⟨W.g && decide (((W.k : Int) + 1) = n), W.k + 1, W.en, W.r⟩ = U at *
  by_cases hc : n = (W.k : Int) + 1
  ·have hc' : ((W.k : Int) + 1) = n := hc.symm
   rw [if_pos hc]
   refine ⟨?_, fun u h => ?_⟩
   ·rw [ih.1, decide_eq_true hc']
    cases num t (W.k + 1, W.en) <;> simp
   ·rw [Option.map_eq_some_iff] at h
    obtain ⟨v, hv, rfl⟩ := h
    obtain ⟨e1, e2⟩ := ih.2 v hv
    exact ⟨e1, by rw [e2]⟩
  ·have hc' : ¬ ((W.k : Int) + 1) = n := fun e => hc e.symm
   rw [if_neg hc]
   refine ⟨?_, fun u h => by cases h⟩
   rw [ih.1, decide_eq_false hc']
   simp
end Go.Proofs.YtkcbknfhckomcaaGreatDoor
