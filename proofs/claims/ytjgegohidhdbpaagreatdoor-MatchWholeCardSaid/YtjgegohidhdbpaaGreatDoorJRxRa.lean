/- The reference's fields: what it answers. -/
import Derived.Test.YtjgegohidhdbpaaGreatDoorJRxIt
import Derived.BigQuiet
open Go.Proofs.Tryz
set_option linter.unusedVariables false
set_option linter.unusedSimpArgs false
set_option maxRecDepth 100000
set_option maxHeartbeats 40000000
namespace Go.Proofs.YtjgegohidhdbpaaGreatDoor
open Go.RowKit
theorem qkV : Tryz.prog.keyTypeAt 2 54 = true := by kernel_rfl
theorem Wx (a b c d : Int) : (Value.agg #[.int .u64 a, .int .u64 b, .int .u64 c, .int .u64 d]).formed prog 54 = true := by
 simp [Value.formed, underlying54, Xa]
theorem qdc (a b c d : Nat) (h0 : a < 18446744073709551616) (h1 : b < 18446744073709551616) (h2 : c < 18446744073709551616) (h3 : d < 18446744073709551616) :
  Tryz.prog.keyLits 3 54 [.int .u64 a, .int .u64 b, .int .u64 c, .int .u64 d] = some [.int .u64 a, .int .u64 b, .int .u64 c, .int .u64 d] := by
 have h0 := wf_u64 h0; have h1 := wf_u64 h1; have h2 := wf_u64 h2; have h3 := wf_u64 h3
 simp [Program.keyLits, underlying53, underlying54, YZ, Xa, h0, h1, h2, h3, show List.range 4 = [0, 1, 2, 3] from rfl]
theorem qdd (a b c d : Nat) (h0 : a < 18446744073709551616) (h1 : b < 18446744073709551616) (h2 : c < 18446744073709551616) (h3 : d < 18446744073709551616) (w : World) :
  (Op.equalIn 10000 54 (.agg #[.int .u64 a, .int .u64 b, .int .u64 c, .int .u64 d]) (.agg #[.int .u64 0, .int .u64 0, .int .u64 0, .int .u64 0])).run prog w = .ok (decide (a = 0 ∧ b = 0 ∧ c = 0 ∧ d = 0)) w := by
 obtain ⟨r, hr, UI⟩ := run_equalIn_deep 9998 2 _ qkV w 3 3 _ _ _ _ (Wx a b c d) (Wx (0 : Nat) (0 : Nat) (0 : Nat) (0 : Nat)) (qdc a b c d h0 h1 h2 h3) (qdc 0 0 0 0 (by decide) (by decide) (by decide) (by decide))
 have We : (Op.equalIn 10000 54 (.agg #[.int .u64 a, .int .u64 b, .int .u64 c, .int .u64 d]) (.agg #[.int .u64 0, .int .u64 0, .int .u64 0, .int .u64 0])).run prog w = .ok r w := hr
 rw [We]
 congr 1
 rw [Bool.eq_iff_iff, UI, decide_eq_true_iff]
 simp
theorem qde (w0 w1 w2 w3 : Nat) (a b m M n : Int) (hx : Nd.Fits ⟨0, w0, w1, w2, w3, a, b, m, M, n⟩) (w : World) :
  Calls prog 127 #[.agg #[.int .i64 0, .int .u64 w0, .int .u64 w1, .int .u64 w2, .int .u64 w3, .int .i64 a, .int .i64 b, .int .i64 m, .int .i64 M, .int .i64 n]] w fun e w' => e = .returned (.bool (qY ⟨0, w0, w1, w2, w3, a, b, m, M, n⟩)) ∧ Below w.heap.size w w' := by
 have fy : Nd.Fits ⟨0, 0, 0, 0, 0, 0, 0, 0, 0, 0⟩ := ⟨hx.k, (by decide : (0 : Nat) < 18446744073709551616), (by decide : (0 : Nat) < 18446744073709551616), (by decide : (0 : Nat) < 18446744073709551616), (by decide : (0 : Nat) < 18446744073709551616), (by decide : -9223372036854775808 ≤ (0 : Int) ∧ (0 : Int) ≤ 9223372036854775807), (by decide : -9223372036854775808 ≤ (0 : Int) ∧ (0 : Int) ≤ 9223372036854775807), (by decide : -9223372036854775808 ≤ (0 : Int) ∧ (0 : Int) ≤ 9223372036854775807), (by decide : -9223372036854775808 ≤ (0 : Int) ∧ (0 : Int) ≤ 9223372036854775807), (by decide : -9223372036854775808 ≤ (0 : Int) ∧ (0 : Int) ≤ 9223372036854775807)⟩
 obtain ⟨ey, vY⟩ : ∃ c, c = decide ((⟨0, w0, w1, w2, w3, a, b, m, M, n⟩ : Nd) = (⟨0, 0, 0, 0, 0, 0, 0, 0, 0, 0⟩ : Nd)) := ⟨_, rfl⟩
 have qy : ∀ w, (Op.equalIn 10000 73 (.agg #[.int .i64 0, .int .u64 0, .int .u64 0, .int .u64 0, .int .u64 0, .int .i64 0, .int .i64 0, .int .i64 0, .int .i64 0, .int .i64 0]) (.agg #[.int .i64 0, .int .u64 w0, .int .u64 w1, .int .u64 w2, .int .u64 w3, .int .i64 a, .int .i64 b, .int .i64 m, .int .i64 M, .int .i64 n])).run prog w = .ok ey w := fun w => by
  have := ZY (⟨0, 0, 0, 0, 0, 0, 0, 0, 0, 0⟩ : Nd) (⟨0, w0, w1, w2, w3, a, b, m, M, n⟩ : Nd) fy hx w
  rw [show decide ((⟨0, 0, 0, 0, 0, 0, 0, 0, 0, 0⟩ : Nd) = (⟨0, w0, w1, w2, w3, a, b, m, M, n⟩ : Nd)) = ey by rw [vY]; exact decide_eq_decide.2 eq_comm] at this
  exact this
 have hr : qY ⟨0, w0, w1, w2, w3, a, b, m, M, n⟩ = ey := by rw [vY]; rfl
 rw [hr]
 clear hr vY
 have qQ : ∀ o1 o2 o3, Below w.heap.size w (((w.alloc o1).alloc o2).alloc o3) := fun o1 o2 o3 => (((Below.refl _ w).alloc (Nat.le_refl _) _).alloc (by rw [World.size_alloc]; omega) _).alloc (by rw [World.size_alloc, World.size_alloc]; omega) _
 cases ey
 ·go_enter func127, ntmps127
  go_wp2
  go_ret
  exact ⟨rfl, qQ _ _ _⟩
 ·go_enter func127, ntmps127
  go_wp2
  go_ret
  exact ⟨rfl, qQ _ _ _⟩
theorem qdf (w0 w1 w2 w3 : Nat) (a b m M n : Int) (hx : Nd.Fits ⟨2, w0, w1, w2, w3, a, b, m, M, n⟩) (w : World) :
  Calls prog 127 #[.agg #[.int .i64 2, .int .u64 w0, .int .u64 w1, .int .u64 w2, .int .u64 w3, .int .i64 a, .int .i64 b, .int .i64 m, .int .i64 M, .int .i64 n]] w fun e w' => e = .returned (.bool (qY ⟨2, w0, w1, w2, w3, a, b, m, M, n⟩)) ∧ Below w.heap.size w w' := by
 have fy : Nd.Fits ⟨2, 0, 0, 0, 0, 0, 0, 0, 0, 0⟩ := ⟨hx.k, (by decide : (0 : Nat) < 18446744073709551616), (by decide : (0 : Nat) < 18446744073709551616), (by decide : (0 : Nat) < 18446744073709551616), (by decide : (0 : Nat) < 18446744073709551616), (by decide : -9223372036854775808 ≤ (0 : Int) ∧ (0 : Int) ≤ 9223372036854775807), (by decide : -9223372036854775808 ≤ (0 : Int) ∧ (0 : Int) ≤ 9223372036854775807), (by decide : -9223372036854775808 ≤ (0 : Int) ∧ (0 : Int) ≤ 9223372036854775807), (by decide : -9223372036854775808 ≤ (0 : Int) ∧ (0 : Int) ≤ 9223372036854775807), (by decide : -9223372036854775808 ≤ (0 : Int) ∧ (0 : Int) ≤ 9223372036854775807)⟩
 obtain ⟨ey, vY⟩ : ∃ c, c = decide ((⟨2, w0, w1, w2, w3, a, b, m, M, n⟩ : Nd) = (⟨2, 0, 0, 0, 0, 0, 0, 0, 0, 0⟩ : Nd)) := ⟨_, rfl⟩
 have qy : ∀ w, (Op.equalIn 10000 73 (.agg #[.int .i64 2, .int .u64 0, .int .u64 0, .int .u64 0, .int .u64 0, .int .i64 0, .int .i64 0, .int .i64 0, .int .i64 0, .int .i64 0]) (.agg #[.int .i64 2, .int .u64 w0, .int .u64 w1, .int .u64 w2, .int .u64 w3, .int .i64 a, .int .i64 b, .int .i64 m, .int .i64 M, .int .i64 n])).run prog w = .ok ey w := fun w => by
  have := ZY (⟨2, 0, 0, 0, 0, 0, 0, 0, 0, 0⟩ : Nd) (⟨2, w0, w1, w2, w3, a, b, m, M, n⟩ : Nd) fy hx w
  rw [show decide ((⟨2, 0, 0, 0, 0, 0, 0, 0, 0, 0⟩ : Nd) = (⟨2, w0, w1, w2, w3, a, b, m, M, n⟩ : Nd)) = ey by rw [vY]; exact decide_eq_decide.2 eq_comm] at this
  exact this
 have hr : qY ⟨2, w0, w1, w2, w3, a, b, m, M, n⟩ = ey := by rw [vY]; rfl
 rw [hr]
 clear hr vY
 have qQ : ∀ o1 o2 o3, Below w.heap.size w (((w.alloc o1).alloc o2).alloc o3) := fun o1 o2 o3 => (((Below.refl _ w).alloc (Nat.le_refl _) _).alloc (by rw [World.size_alloc]; omega) _).alloc (by rw [World.size_alloc, World.size_alloc]; omega) _
 cases ey
 ·go_enter func127, ntmps127
  go_wp2
  go_ret
  exact ⟨rfl, qQ _ _ _⟩
 ·go_enter func127, ntmps127
  go_wp2
  go_ret
  exact ⟨rfl, qQ _ _ _⟩
theorem qdg (w0 w1 w2 w3 : Nat) (a b m M n : Int) (hx : Nd.Fits ⟨3, w0, w1, w2, w3, a, b, m, M, n⟩) (w : World) :
  Calls prog 127 #[.agg #[.int .i64 3, .int .u64 w0, .int .u64 w1, .int .u64 w2, .int .u64 w3, .int .i64 a, .int .i64 b, .int .i64 m, .int .i64 M, .int .i64 n]] w fun e w' => e = .returned (.bool (qY ⟨3, w0, w1, w2, w3, a, b, m, M, n⟩)) ∧ Below w.heap.size w w' := by
 have fy : Nd.Fits ⟨3, 0, 0, 0, 0, 0, 0, 0, 0, 0⟩ := ⟨hx.k, (by decide : (0 : Nat) < 18446744073709551616), (by decide : (0 : Nat) < 18446744073709551616), (by decide : (0 : Nat) < 18446744073709551616), (by decide : (0 : Nat) < 18446744073709551616), (by decide : -9223372036854775808 ≤ (0 : Int) ∧ (0 : Int) ≤ 9223372036854775807), (by decide : -9223372036854775808 ≤ (0 : Int) ∧ (0 : Int) ≤ 9223372036854775807), (by decide : -9223372036854775808 ≤ (0 : Int) ∧ (0 : Int) ≤ 9223372036854775807), (by decide : -9223372036854775808 ≤ (0 : Int) ∧ (0 : Int) ≤ 9223372036854775807), (by decide : -9223372036854775808 ≤ (0 : Int) ∧ (0 : Int) ≤ 9223372036854775807)⟩
 obtain ⟨ey, vY⟩ : ∃ c, c = decide ((⟨3, w0, w1, w2, w3, a, b, m, M, n⟩ : Nd) = (⟨3, 0, 0, 0, 0, 0, 0, 0, 0, 0⟩ : Nd)) := ⟨_, rfl⟩
 have qy : ∀ w, (Op.equalIn 10000 73 (.agg #[.int .i64 3, .int .u64 0, .int .u64 0, .int .u64 0, .int .u64 0, .int .i64 0, .int .i64 0, .int .i64 0, .int .i64 0, .int .i64 0]) (.agg #[.int .i64 3, .int .u64 w0, .int .u64 w1, .int .u64 w2, .int .u64 w3, .int .i64 a, .int .i64 b, .int .i64 m, .int .i64 M, .int .i64 n])).run prog w = .ok ey w := fun w => by
  have := ZY (⟨3, 0, 0, 0, 0, 0, 0, 0, 0, 0⟩ : Nd) (⟨3, w0, w1, w2, w3, a, b, m, M, n⟩ : Nd) fy hx w
  rw [show decide ((⟨3, 0, 0, 0, 0, 0, 0, 0, 0, 0⟩ : Nd) = (⟨3, w0, w1, w2, w3, a, b, m, M, n⟩ : Nd)) = ey by rw [vY]; exact decide_eq_decide.2 eq_comm] at this
  exact this
 have hr : qY ⟨3, w0, w1, w2, w3, a, b, m, M, n⟩ = ey := by rw [vY]; rfl
 rw [hr]
 clear hr vY
 have qQ : ∀ o1 o2 o3, Below w.heap.size w (((w.alloc o1).alloc o2).alloc o3) := fun o1 o2 o3 => (((Below.refl _ w).alloc (Nat.le_refl _) _).alloc (by rw [World.size_alloc]; omega) _).alloc (by rw [World.size_alloc, World.size_alloc]; omega) _
 cases ey
 ·go_enter func127, ntmps127
  go_wp2
  go_ret
  exact ⟨rfl, qQ _ _ _⟩
 ·go_enter func127, ntmps127
  go_wp2
  go_ret
  exact ⟨rfl, qQ _ _ _⟩
theorem qdh (w0 w1 w2 w3 : Nat) (a b m M n : Int) (hx : Nd.Fits ⟨1, w0, w1, w2, w3, a, b, m, M, n⟩) (w : World) :
  Calls prog 127 #[.agg #[.int .i64 1, .int .u64 w0, .int .u64 w1, .int .u64 w2, .int .u64 w3, .int .i64 a, .int .i64 b, .int .i64 m, .int .i64 M, .int .i64 n]] w fun e w' => e = .returned (.bool (qY ⟨1, w0, w1, w2, w3, a, b, m, M, n⟩)) ∧ Below w.heap.size w w' := by
 have fy : Nd.Fits ⟨1, w0, w1, w2, w3, 0, 0, 0, 0, 0⟩ := ⟨hx.k, hx.s0, hx.s1, hx.s2, hx.s3, (by decide : -9223372036854775808 ≤ (0 : Int) ∧ (0 : Int) ≤ 9223372036854775807), (by decide : -9223372036854775808 ≤ (0 : Int) ∧ (0 : Int) ≤ 9223372036854775807), (by decide : -9223372036854775808 ≤ (0 : Int) ∧ (0 : Int) ≤ 9223372036854775807), (by decide : -9223372036854775808 ≤ (0 : Int) ∧ (0 : Int) ≤ 9223372036854775807), (by decide : -9223372036854775808 ≤ (0 : Int) ∧ (0 : Int) ≤ 9223372036854775807)⟩
 obtain ⟨ey, vY⟩ : ∃ c, c = decide ((⟨1, w0, w1, w2, w3, a, b, m, M, n⟩ : Nd) = (⟨1, w0, w1, w2, w3, 0, 0, 0, 0, 0⟩ : Nd)) := ⟨_, rfl⟩
 have qy : ∀ w, (Op.equalIn 10000 73 (.agg #[.int .i64 1, .int .u64 w0, .int .u64 w1, .int .u64 w2, .int .u64 w3, .int .i64 0, .int .i64 0, .int .i64 0, .int .i64 0, .int .i64 0]) (.agg #[.int .i64 1, .int .u64 w0, .int .u64 w1, .int .u64 w2, .int .u64 w3, .int .i64 a, .int .i64 b, .int .i64 m, .int .i64 M, .int .i64 n])).run prog w = .ok ey w := fun w => by
  have := ZY (⟨1, w0, w1, w2, w3, 0, 0, 0, 0, 0⟩ : Nd) (⟨1, w0, w1, w2, w3, a, b, m, M, n⟩ : Nd) fy hx w
  rw [show decide ((⟨1, w0, w1, w2, w3, 0, 0, 0, 0, 0⟩ : Nd) = (⟨1, w0, w1, w2, w3, a, b, m, M, n⟩ : Nd)) = ey by rw [vY]; exact decide_eq_decide.2 eq_comm] at this
  exact this
 obtain ⟨es, hes⟩ : ∃ c, c = decide (w0 = 0 ∧ w1 = 0 ∧ w2 = 0 ∧ w3 = 0) := ⟨_, rfl⟩
 have qs := fun w => qdd w0 w1 w2 w3 hx.s0 hx.s1 hx.s2 hx.s3 w
 rw [← hes] at qs
 have hr : qY ⟨1, w0, w1, w2, w3, a, b, m, M, n⟩ = (!es && ey) := by
  rw [vY, hes]
  show (decide (¬ (w0 = 0 ∧ w1 = 0 ∧ w2 = 0 ∧ w3 = 0)) && _) = _
  congr 1
  simp
 rw [hr]
 clear hr vY hes
 have qQ : ∀ o1 o2 o3, Below w.heap.size w (((w.alloc o1).alloc o2).alloc o3) := fun o1 o2 o3 => (((Below.refl _ w).alloc (Nat.le_refl _) _).alloc (by rw [World.size_alloc]; omega) _).alloc (by rw [World.size_alloc, World.size_alloc]; omega) _
 cases es
 ·simp only [Bool.not_false, Bool.true_and]
  cases ey
  ·go_enter func127, ntmps127
   go_wp2
   go_ret
   exact ⟨rfl, qQ _ _ _⟩
  ·go_enter func127, ntmps127
   go_wp2
   go_ret
   exact ⟨rfl, qQ _ _ _⟩
 ·simp only [Bool.not_true, Bool.false_and]
  cases ey
  ·go_enter func127, ntmps127
   go_wp2
   go_ret
   exact ⟨rfl, qQ _ _ _⟩
  ·go_enter func127, ntmps127
   go_wp2
   go_ret
   exact ⟨rfl, qQ _ _ _⟩
theorem qdi (w0 w1 w2 w3 : Nat) (a b m M n : Int) (hx : Nd.Fits ⟨4, w0, w1, w2, w3, a, b, m, M, n⟩) (w : World) :
  Calls prog 127 #[.agg #[.int .i64 4, .int .u64 w0, .int .u64 w1, .int .u64 w2, .int .u64 w3, .int .i64 a, .int .i64 b, .int .i64 m, .int .i64 M, .int .i64 n]] w fun e w' => e = .returned (.bool (qY ⟨4, w0, w1, w2, w3, a, b, m, M, n⟩)) ∧ Below w.heap.size w w' := by
 have fy : Nd.Fits ⟨4, 0, 0, 0, 0, a, b, 0, 0, 0⟩ := ⟨hx.k, (by decide : (0 : Nat) < 18446744073709551616), (by decide : (0 : Nat) < 18446744073709551616), (by decide : (0 : Nat) < 18446744073709551616), (by decide : (0 : Nat) < 18446744073709551616), hx.a, hx.b, (by decide : -9223372036854775808 ≤ (0 : Int) ∧ (0 : Int) ≤ 9223372036854775807), (by decide : -9223372036854775808 ≤ (0 : Int) ∧ (0 : Int) ≤ 9223372036854775807), (by decide : -9223372036854775808 ≤ (0 : Int) ∧ (0 : Int) ≤ 9223372036854775807)⟩
 obtain ⟨ey, vY⟩ : ∃ c, c = decide ((⟨4, w0, w1, w2, w3, a, b, m, M, n⟩ : Nd) = (⟨4, 0, 0, 0, 0, a, b, 0, 0, 0⟩ : Nd)) := ⟨_, rfl⟩
 have qy : ∀ w, (Op.equalIn 10000 73 (.agg #[.int .i64 4, .int .u64 0, .int .u64 0, .int .u64 0, .int .u64 0, .int .i64 a, .int .i64 b, .int .i64 0, .int .i64 0, .int .i64 0]) (.agg #[.int .i64 4, .int .u64 w0, .int .u64 w1, .int .u64 w2, .int .u64 w3, .int .i64 a, .int .i64 b, .int .i64 m, .int .i64 M, .int .i64 n])).run prog w = .ok ey w := fun w => by
  have := ZY (⟨4, 0, 0, 0, 0, a, b, 0, 0, 0⟩ : Nd) (⟨4, w0, w1, w2, w3, a, b, m, M, n⟩ : Nd) fy hx w
  rw [show decide ((⟨4, 0, 0, 0, 0, a, b, 0, 0, 0⟩ : Nd) = (⟨4, w0, w1, w2, w3, a, b, m, M, n⟩ : Nd)) = ey by rw [vY]; exact decide_eq_decide.2 eq_comm] at this
  exact this
 have hr : qY ⟨4, w0, w1, w2, w3, a, b, m, M, n⟩ = ey := by rw [vY]; rfl
 rw [hr]
 clear hr vY
 have qQ : ∀ o1 o2 o3, Below w.heap.size w (((w.alloc o1).alloc o2).alloc o3) := fun o1 o2 o3 => (((Below.refl _ w).alloc (Nat.le_refl _) _).alloc (by rw [World.size_alloc]; omega) _).alloc (by rw [World.size_alloc, World.size_alloc]; omega) _
 cases ey
 ·go_enter func127, ntmps127
  go_wp2
  go_ret
  exact ⟨rfl, qQ _ _ _⟩
 ·go_enter func127, ntmps127
  go_wp2
  go_ret
  exact ⟨rfl, qQ _ _ _⟩
theorem qdj (w0 w1 w2 w3 : Nat) (a b m M n : Int) (hx : Nd.Fits ⟨5, w0, w1, w2, w3, a, b, m, M, n⟩) (w : World) :
  Calls prog 127 #[.agg #[.int .i64 5, .int .u64 w0, .int .u64 w1, .int .u64 w2, .int .u64 w3, .int .i64 a, .int .i64 b, .int .i64 m, .int .i64 M, .int .i64 n]] w fun e w' => e = .returned (.bool (qY ⟨5, w0, w1, w2, w3, a, b, m, M, n⟩)) ∧ Below w.heap.size w w' := by
 have fy : Nd.Fits ⟨5, 0, 0, 0, 0, a, b, 0, 0, 0⟩ := ⟨hx.k, (by decide : (0 : Nat) < 18446744073709551616), (by decide : (0 : Nat) < 18446744073709551616), (by decide : (0 : Nat) < 18446744073709551616), (by decide : (0 : Nat) < 18446744073709551616), hx.a, hx.b, (by decide : -9223372036854775808 ≤ (0 : Int) ∧ (0 : Int) ≤ 9223372036854775807), (by decide : -9223372036854775808 ≤ (0 : Int) ∧ (0 : Int) ≤ 9223372036854775807), (by decide : -9223372036854775808 ≤ (0 : Int) ∧ (0 : Int) ≤ 9223372036854775807)⟩
 obtain ⟨ey, vY⟩ : ∃ c, c = decide ((⟨5, w0, w1, w2, w3, a, b, m, M, n⟩ : Nd) = (⟨5, 0, 0, 0, 0, a, b, 0, 0, 0⟩ : Nd)) := ⟨_, rfl⟩
 have qy : ∀ w, (Op.equalIn 10000 73 (.agg #[.int .i64 5, .int .u64 0, .int .u64 0, .int .u64 0, .int .u64 0, .int .i64 a, .int .i64 b, .int .i64 0, .int .i64 0, .int .i64 0]) (.agg #[.int .i64 5, .int .u64 w0, .int .u64 w1, .int .u64 w2, .int .u64 w3, .int .i64 a, .int .i64 b, .int .i64 m, .int .i64 M, .int .i64 n])).run prog w = .ok ey w := fun w => by
  have := ZY (⟨5, 0, 0, 0, 0, a, b, 0, 0, 0⟩ : Nd) (⟨5, w0, w1, w2, w3, a, b, m, M, n⟩ : Nd) fy hx w
  rw [show decide ((⟨5, 0, 0, 0, 0, a, b, 0, 0, 0⟩ : Nd) = (⟨5, w0, w1, w2, w3, a, b, m, M, n⟩ : Nd)) = ey by rw [vY]; exact decide_eq_decide.2 eq_comm] at this
  exact this
 have hr : qY ⟨5, w0, w1, w2, w3, a, b, m, M, n⟩ = ey := by rw [vY]; rfl
 rw [hr]
 clear hr vY
 have qQ : ∀ o1 o2 o3, Below w.heap.size w (((w.alloc o1).alloc o2).alloc o3) := fun o1 o2 o3 => (((Below.refl _ w).alloc (Nat.le_refl _) _).alloc (by rw [World.size_alloc]; omega) _).alloc (by rw [World.size_alloc, World.size_alloc]; omega) _
 cases ey
 ·go_enter func127, ntmps127
  go_wp2
  go_ret
  exact ⟨rfl, qQ _ _ _⟩
 ·go_enter func127, ntmps127
  go_wp2
  go_ret
  exact ⟨rfl, qQ _ _ _⟩
theorem qdk (w0 w1 w2 w3 : Nat) (a b m M n : Int) (hx : Nd.Fits ⟨6, w0, w1, w2, w3, a, b, m, M, n⟩) (w : World) :
  Calls prog 127 #[.agg #[.int .i64 6, .int .u64 w0, .int .u64 w1, .int .u64 w2, .int .u64 w3, .int .i64 a, .int .i64 b, .int .i64 m, .int .i64 M, .int .i64 n]] w fun e w' => e = .returned (.bool (qY ⟨6, w0, w1, w2, w3, a, b, m, M, n⟩)) ∧ Below w.heap.size w w' := by
 have fy : Nd.Fits ⟨6, 0, 0, 0, 0, a, 0, m, M, 0⟩ := ⟨hx.k, (by decide : (0 : Nat) < 18446744073709551616), (by decide : (0 : Nat) < 18446744073709551616), (by decide : (0 : Nat) < 18446744073709551616), (by decide : (0 : Nat) < 18446744073709551616), hx.a, (by decide : -9223372036854775808 ≤ (0 : Int) ∧ (0 : Int) ≤ 9223372036854775807), hx.mn, hx.mx, (by decide : -9223372036854775808 ≤ (0 : Int) ∧ (0 : Int) ≤ 9223372036854775807)⟩
 obtain ⟨ey, vY⟩ : ∃ c, c = decide ((⟨6, w0, w1, w2, w3, a, b, m, M, n⟩ : Nd) = (⟨6, 0, 0, 0, 0, a, 0, m, M, 0⟩ : Nd)) := ⟨_, rfl⟩
 have qy : ∀ w, (Op.equalIn 10000 73 (.agg #[.int .i64 6, .int .u64 0, .int .u64 0, .int .u64 0, .int .u64 0, .int .i64 a, .int .i64 0, .int .i64 m, .int .i64 M, .int .i64 0]) (.agg #[.int .i64 6, .int .u64 w0, .int .u64 w1, .int .u64 w2, .int .u64 w3, .int .i64 a, .int .i64 b, .int .i64 m, .int .i64 M, .int .i64 n])).run prog w = .ok ey w := fun w => by
  have := ZY (⟨6, 0, 0, 0, 0, a, 0, m, M, 0⟩ : Nd) (⟨6, w0, w1, w2, w3, a, b, m, M, n⟩ : Nd) fy hx w
  rw [show decide ((⟨6, 0, 0, 0, 0, a, 0, m, M, 0⟩ : Nd) = (⟨6, w0, w1, w2, w3, a, b, m, M, n⟩ : Nd)) = ey by rw [vY]; exact decide_eq_decide.2 eq_comm] at this
  exact this
 have hr : qY ⟨6, w0, w1, w2, w3, a, b, m, M, n⟩ = (zr m M && ey) := by rw [vY]; rfl
 have qQ : ∀ o1 o2 o3, Below w.heap.size w (((w.alloc o1).alloc o2).alloc o3) := fun o1 o2 o3 => (((Below.refl _ w).alloc (Nat.le_refl _) _).alloc (by rw [World.size_alloc]; omega) _).alloc (by rw [World.size_alloc, World.size_alloc]; omega) _
 by_cases h1 : m < 0
 ·have g1 : (m < 0) = True := by simp [h1]
  rw [show zr m M = false by unfold zr; rw [if_pos (by omega)]] at hr
  simp only [Bool.false_and] at hr
  rw [hr]
  clear hr vY
  go_enter func127, ntmps127
  go_wp2
  go_ret
  exact ⟨rfl, qQ _ _ _⟩
 by_cases h2 : 255 < m
 ·have g1 : (m < 0) = False := by simp; omega
  have g2 : (255 < m) = True := by simp [h2]
  rw [show zr m M = false by unfold zr; rw [if_pos (by omega)]] at hr
  simp only [Bool.false_and] at hr
  rw [hr]
  clear hr vY
  go_enter func127, ntmps127
  go_wp2
  go_ret
  exact ⟨rfl, qQ _ _ _⟩
 have g1 : (m < 0) = False := by simp; omega
 have g2 : (255 < m) = False := by simp; omega
 by_cases h3 : M = -1
 ·subst h3
  rw [show zr m (-1) = true by unfold zr; rw [if_neg (by omega)]; simp] at hr
  simp only [Bool.true_and] at hr
  rw [hr]
  clear hr vY
  cases ey
  ·go_enter func127, ntmps127
   go_wp2
   go_ret
   exact ⟨rfl, qQ _ _ _⟩
  ·go_enter func127, ntmps127
   go_wp2
   go_ret
   exact ⟨rfl, qQ _ _ _⟩
 have g3 : (M == -1) = false := by rw [beq_eq_false_iff_ne]; exact h3
 by_cases h4 : M < m
 ·have g4 : (M < m) = True := by simp [h4]
  rw [show zr m M = false by unfold zr; rw [if_neg (by omega)]; simp; omega] at hr
  simp only [Bool.false_and] at hr
  rw [hr]
  clear hr vY
  go_enter func127, ntmps127
  go_wp2
  go_ret
  exact ⟨rfl, qQ _ _ _⟩
 have g4 : (M < m) = False := by simp; omega
 by_cases h5 : M < 1
 ·have g5 : (M < 1) = True := by simp [h5]
  rw [show zr m M = false by unfold zr; rw [if_neg (by omega)]; simp; omega] at hr
  simp only [Bool.false_and] at hr
  rw [hr]
  clear hr vY
  go_enter func127, ntmps127
  go_wp2
  go_ret
  exact ⟨rfl, qQ _ _ _⟩
 have g5 : (M < 1) = False := by simp; omega
 by_cases h6 : 255 < M
 ·have g6 : (255 < M) = True := by simp [h6]
  rw [show zr m M = false by unfold zr; rw [if_neg (by omega)]; simp; omega] at hr
  simp only [Bool.false_and] at hr
  rw [hr]
  clear hr vY
  go_enter func127, ntmps127
  go_wp2
  go_ret
  exact ⟨rfl, qQ _ _ _⟩
 ·have g6 : (255 < M) = False := by simp; omega
  rw [show zr m M = true by unfold zr; rw [if_neg (by omega)]; simp; omega] at hr
  simp only [Bool.true_and] at hr
  rw [hr]
  clear hr vY
  cases ey
  ·go_enter func127, ntmps127
   go_wp2
   go_ret
   exact ⟨rfl, qQ _ _ _⟩
  ·go_enter func127, ntmps127
   go_wp2
   go_ret
   exact ⟨rfl, qQ _ _ _⟩
theorem qdl (w0 w1 w2 w3 : Nat) (a b m M n : Int) (hx : Nd.Fits ⟨7, w0, w1, w2, w3, a, b, m, M, n⟩) (w : World) :
  Calls prog 127 #[.agg #[.int .i64 7, .int .u64 w0, .int .u64 w1, .int .u64 w2, .int .u64 w3, .int .i64 a, .int .i64 b, .int .i64 m, .int .i64 M, .int .i64 n]] w fun e w' => e = .returned (.bool (qY ⟨7, w0, w1, w2, w3, a, b, m, M, n⟩)) ∧ Below w.heap.size w w' := by
 have fy : Nd.Fits ⟨7, 0, 0, 0, 0, a, 0, 0, 0, n⟩ := ⟨hx.k, (by decide : (0 : Nat) < 18446744073709551616), (by decide : (0 : Nat) < 18446744073709551616), (by decide : (0 : Nat) < 18446744073709551616), (by decide : (0 : Nat) < 18446744073709551616), hx.a, (by decide : -9223372036854775808 ≤ (0 : Int) ∧ (0 : Int) ≤ 9223372036854775807), (by decide : -9223372036854775808 ≤ (0 : Int) ∧ (0 : Int) ≤ 9223372036854775807), (by decide : -9223372036854775808 ≤ (0 : Int) ∧ (0 : Int) ≤ 9223372036854775807), hx.n⟩
 obtain ⟨ey, vY⟩ : ∃ c, c = decide ((⟨7, w0, w1, w2, w3, a, b, m, M, n⟩ : Nd) = (⟨7, 0, 0, 0, 0, a, 0, 0, 0, n⟩ : Nd)) := ⟨_, rfl⟩
 have qy : ∀ w, (Op.equalIn 10000 73 (.agg #[.int .i64 7, .int .u64 0, .int .u64 0, .int .u64 0, .int .u64 0, .int .i64 a, .int .i64 0, .int .i64 0, .int .i64 0, .int .i64 n]) (.agg #[.int .i64 7, .int .u64 w0, .int .u64 w1, .int .u64 w2, .int .u64 w3, .int .i64 a, .int .i64 b, .int .i64 m, .int .i64 M, .int .i64 n])).run prog w = .ok ey w := fun w => by
  have := ZY (⟨7, 0, 0, 0, 0, a, 0, 0, 0, n⟩ : Nd) (⟨7, w0, w1, w2, w3, a, b, m, M, n⟩ : Nd) fy hx w
  rw [show decide ((⟨7, 0, 0, 0, 0, a, 0, 0, 0, n⟩ : Nd) = (⟨7, w0, w1, w2, w3, a, b, m, M, n⟩ : Nd)) = ey by rw [vY]; exact decide_eq_decide.2 eq_comm] at this
  exact this
 have hr : qY ⟨7, w0, w1, w2, w3, a, b, m, M, n⟩ = (zR n && ey) := by rw [vY]; rfl
 have qQ : ∀ o1 o2 o3, Below w.heap.size w (((w.alloc o1).alloc o2).alloc o3) := fun o1 o2 o3 => (((Below.refl _ w).alloc (Nat.le_refl _) _).alloc (by rw [World.size_alloc]; omega) _).alloc (by rw [World.size_alloc, World.size_alloc]; omega) _
 by_cases h1 : 1 ≤ n
 ·have g1 : (1 ≤ n) = True := by simp [h1]
  by_cases h9 : n ≤ 9
  ·have g2 : (n ≤ 9) = True := by simp [h9]
   rw [show zR n = true by unfold zR; simp; omega, Bool.true_and] at hr
   rw [hr]
   clear hr vY
   cases ey
   ·go_enter func127, ntmps127
    go_wp2
    go_ret
    exact ⟨rfl, qQ _ _ _⟩
   ·go_enter func127, ntmps127
    go_wp2
    go_ret
    exact ⟨rfl, qQ _ _ _⟩
  ·have g2 : (n ≤ 9) = False := by simp; omega
   rw [show zR n = false by unfold zR; simp; omega, Bool.false_and] at hr
   rw [hr]
   clear hr vY
   cases ey
   ·go_enter func127, ntmps127
    go_wp2
    go_ret
    exact ⟨rfl, qQ _ _ _⟩
   ·go_enter func127, ntmps127
    go_wp2
    go_ret
    exact ⟨rfl, qQ _ _ _⟩
 ·have g1 : (1 ≤ n) = False := by simp; omega
  rw [show zR n = false by unfold zR; simp; omega, Bool.false_and] at hr
  rw [hr]
  clear hr vY
  cases ey
  ·go_enter func127, ntmps127
   go_wp2
   go_ret
   exact ⟨rfl, qQ _ _ _⟩
  ·go_enter func127, ntmps127
   go_wp2
   go_ret
   exact ⟨rfl, qQ _ _ _⟩
theorem qdm (w0 w1 w2 w3 : Nat) (a b m M n : Int) (hx : Nd.Fits ⟨8, w0, w1, w2, w3, a, b, m, M, n⟩) (w : World) :
  Calls prog 127 #[.agg #[.int .i64 8, .int .u64 w0, .int .u64 w1, .int .u64 w2, .int .u64 w3, .int .i64 a, .int .i64 b, .int .i64 m, .int .i64 M, .int .i64 n]] w fun e w' => e = .returned (.bool (qY ⟨8, w0, w1, w2, w3, a, b, m, M, n⟩)) ∧ Below w.heap.size w w' := by
 have fy : Nd.Fits ⟨8, 0, 0, 0, 0, 0, 0, 0, 0, n⟩ := ⟨hx.k, (by decide : (0 : Nat) < 18446744073709551616), (by decide : (0 : Nat) < 18446744073709551616), (by decide : (0 : Nat) < 18446744073709551616), (by decide : (0 : Nat) < 18446744073709551616), (by decide : -9223372036854775808 ≤ (0 : Int) ∧ (0 : Int) ≤ 9223372036854775807), (by decide : -9223372036854775808 ≤ (0 : Int) ∧ (0 : Int) ≤ 9223372036854775807), (by decide : -9223372036854775808 ≤ (0 : Int) ∧ (0 : Int) ≤ 9223372036854775807), (by decide : -9223372036854775808 ≤ (0 : Int) ∧ (0 : Int) ≤ 9223372036854775807), hx.n⟩
 obtain ⟨ey, vY⟩ : ∃ c, c = decide ((⟨8, w0, w1, w2, w3, a, b, m, M, n⟩ : Nd) = (⟨8, 0, 0, 0, 0, 0, 0, 0, 0, n⟩ : Nd)) := ⟨_, rfl⟩
 have qy : ∀ w, (Op.equalIn 10000 73 (.agg #[.int .i64 8, .int .u64 0, .int .u64 0, .int .u64 0, .int .u64 0, .int .i64 0, .int .i64 0, .int .i64 0, .int .i64 0, .int .i64 n]) (.agg #[.int .i64 8, .int .u64 w0, .int .u64 w1, .int .u64 w2, .int .u64 w3, .int .i64 a, .int .i64 b, .int .i64 m, .int .i64 M, .int .i64 n])).run prog w = .ok ey w := fun w => by
  have := ZY (⟨8, 0, 0, 0, 0, 0, 0, 0, 0, n⟩ : Nd) (⟨8, w0, w1, w2, w3, a, b, m, M, n⟩ : Nd) fy hx w
  rw [show decide ((⟨8, 0, 0, 0, 0, 0, 0, 0, 0, n⟩ : Nd) = (⟨8, w0, w1, w2, w3, a, b, m, M, n⟩ : Nd)) = ey by rw [vY]; exact decide_eq_decide.2 eq_comm] at this
  exact this
 have hr : qY ⟨8, w0, w1, w2, w3, a, b, m, M, n⟩ = (zR n && ey) := by rw [vY]; rfl
 have qQ : ∀ o1 o2 o3, Below w.heap.size w (((w.alloc o1).alloc o2).alloc o3) := fun o1 o2 o3 => (((Below.refl _ w).alloc (Nat.le_refl _) _).alloc (by rw [World.size_alloc]; omega) _).alloc (by rw [World.size_alloc, World.size_alloc]; omega) _
 by_cases h1 : 1 ≤ n
 ·have g1 : (1 ≤ n) = True := by simp [h1]
  by_cases h9 : n ≤ 9
  ·have g2 : (n ≤ 9) = True := by simp [h9]
   rw [show zR n = true by unfold zR; simp; omega, Bool.true_and] at hr
   rw [hr]
   clear hr vY
   cases ey
   ·go_enter func127, ntmps127
    go_wp2
    go_ret
    exact ⟨rfl, qQ _ _ _⟩
   ·go_enter func127, ntmps127
    go_wp2
    go_ret
    exact ⟨rfl, qQ _ _ _⟩
  ·have g2 : (n ≤ 9) = False := by simp; omega
   rw [show zR n = false by unfold zR; simp; omega, Bool.false_and] at hr
   rw [hr]
   clear hr vY
   cases ey
   ·go_enter func127, ntmps127
    go_wp2
    go_ret
    exact ⟨rfl, qQ _ _ _⟩
   ·go_enter func127, ntmps127
    go_wp2
    go_ret
    exact ⟨rfl, qQ _ _ _⟩
 ·have g1 : (1 ≤ n) = False := by simp; omega
  rw [show zR n = false by unfold zR; simp; omega, Bool.false_and] at hr
  rw [hr]
  clear hr vY
  cases ey
  ·go_enter func127, ntmps127
   go_wp2
   go_ret
   exact ⟨rfl, qQ _ _ _⟩
  ·go_enter func127, ntmps127
   go_wp2
   go_ret
   exact ⟨rfl, qQ _ _ _⟩
theorem qdn (k : Int) (w0 w1 w2 w3 : Nat) (a b m M n : Int) (hx : Nd.Fits ⟨k, w0, w1, w2, w3, a, b, m, M, n⟩) (hk : k < 0 ∨ 8 < k) (w : World) :
  Calls prog 127 #[.agg #[.int .i64 k, .int .u64 w0, .int .u64 w1, .int .u64 w2, .int .u64 w3, .int .i64 a, .int .i64 b, .int .i64 m, .int .i64 M, .int .i64 n]] w fun e w' => e = .returned (.bool (qY ⟨k, w0, w1, w2, w3, a, b, m, M, n⟩)) ∧ Below w.heap.size w w' := by
 have ne : ∀ v : Int, 0 ≤ v → v ≤ 8 → (k == v) = false := fun v h0 h8 => by
  rw [beq_eq_false_iff_ne]
  intro e
  omega
 have hr : qY ⟨k, w0, w1, w2, w3, a, b, m, M, n⟩ = false := by
  unfold qY
  rw [if_neg (by simp only; omega), if_neg (by simp only; omega), if_neg (by simp only; omega), if_neg (by simp only; omega), if_neg (by simp only; omega), if_neg (by simp only; omega)]
 rw [hr]
 have n0 := ne 0 (by omega) (by omega)
 have n1 := ne 1 (by omega) (by omega)
 have n2 := ne 2 (by omega) (by omega)
 have n3 := ne 3 (by omega) (by omega)
 have n4 := ne 4 (by omega) (by omega)
 have n5 := ne 5 (by omega) (by omega)
 have n6 := ne 6 (by omega) (by omega)
 have n7 := ne 7 (by omega) (by omega)
 have n8 := ne 8 (by omega) (by omega)
 clear hr ne
 have qQ : ∀ o1 o2 o3, Below w.heap.size w (((w.alloc o1).alloc o2).alloc o3) := fun o1 o2 o3 => (((Below.refl _ w).alloc (Nat.le_refl _) _).alloc (by rw [World.size_alloc]; omega) _).alloc (by rw [World.size_alloc, World.size_alloc]; omega) _
 go_enter func127, ntmps127
 go_wp2
 go_ret
 exact ⟨rfl, qQ _ _ _⟩
theorem qc7 (x : Nd) (hx : x.Fits) (w : World) :
  Calls prog 127 #[x.v] w fun e w' => e = .returned (.bool (qY x)) ∧ Below w.heap.size w w' := by
 obtain ⟨k, w0, w1, w2, w3, a, b, m, M, n⟩ := x
 by_cases h : k < 0 ∨ 8 < k
 ·exact qdn k w0 w1 w2 w3 a b m M n hx h w
 rcases (by omega : k = 0 ∨ k = 1 ∨ k = 2 ∨ k = 3 ∨ k = 4 ∨ k = 5 ∨ k = 6 ∨ k = 7 ∨ k = 8) with rfl | rfl | rfl | rfl | rfl | rfl | rfl | rfl | rfl
 ·exact qde w0 w1 w2 w3 a b m M n hx w
 ·exact qdh w0 w1 w2 w3 a b m M n hx w
 ·exact qdf w0 w1 w2 w3 a b m M n hx w
 ·exact qdg w0 w1 w2 w3 a b m M n hx w
 ·exact qdi w0 w1 w2 w3 a b m M n hx w
 ·exact qdj w0 w1 w2 w3 a b m M n hx w
 ·exact qdk w0 w1 w2 w3 a b m M n hx w
 ·exact qdl w0 w1 w2 w3 a b m M n hx w
 ·exact qdm w0 w1 w2 w3 a b m M n hx w
end Go.Proofs.YtjgegohidhdbpaaGreatDoor
