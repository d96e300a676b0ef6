/- isNode: what it answers. -/
import Derived.Test.YthbldjiibgnfmaaGreatDoorZRxT2
namespace Go.Proofs.YthbldjiibgnfmaaGreatDoor
open Go.RowKit
set_option linter.unusedVariables false
set_option linter.unusedSimpArgs false

theorem keySet : Tryz.prog.keyTypeAt 2 24 = true := by kernel_rfl
set_option maxRecDepth 100000 in
theorem formed4 (a b c d : Int) : (Value.agg #[.int .u64 a, .int .u64 b, .int .u64 c, .int .u64 d]).formed Tryz.prog 24 = true := by
  simp [Value.formed, Tryz.underlying24, cellsSet]
set_option maxRecDepth 100000 in
theorem lits4 (a b c d : Nat) (h0 : a < 18446744073709551616) (h1 : b < 18446744073709551616) (h2 : c < 18446744073709551616) (h3 : d < 18446744073709551616) :
    Tryz.prog.keyLits 3 24 [.int .u64 a, .int .u64 b, .int .u64 c, .int .u64 d] = some [.int .u64 a, .int .u64 b, .int .u64 c, .int .u64 d] := by
  have h0 := wf_u64 h0; have h1 := wf_u64 h1; have h2 := wf_u64 h2; have h3 := wf_u64 h3
  simp [Program.keyLits, Tryz.underlying22, Tryz.underlying24, cellsU, cellsSet, h0, h1, h2, h3, show List.range 4 = [0, 1, 2, 3] from rfl]
set_option maxRecDepth 100000 in
/-- Two sets, word by word. -/
theorem eq_words (a b c d a' b' c' d' : Nat) (h0 : a < 18446744073709551616) (h1 : b < 18446744073709551616) (h2 : c < 18446744073709551616) (h3 : d < 18446744073709551616) (h0' : a' < 18446744073709551616) (h1' : b' < 18446744073709551616) (h2' : c' < 18446744073709551616) (h3' : d' < 18446744073709551616) (w : World) :
    (Op.equalIn 10000 24 (.agg #[.int .u64 a, .int .u64 b, .int .u64 c, .int .u64 d]) (.agg #[.int .u64 a', .int .u64 b', .int .u64 c', .int .u64 d'])).run Tryz.prog w = .ok (decide (a = a' ∧ b = b' ∧ c = c' ∧ d = d')) w := by
  obtain ⟨r, hr, hiff⟩ := run_equalIn_deep 9998 2 _ keySet w 3 3 _ _ _ _ (formed4 a b c d) (formed4 a' b' c' d') (lits4 a b c d h0 h1 h2 h3) (lits4 a' b' c' d' h0' h1' h2' h3')
  rw [hr]
  congr 1
  rw [Bool.eq_iff_iff, hiff, decide_eq_true_iff]
  simp
  omega

set_option maxRecDepth 100000 in
set_option maxHeartbeats 4000000 in
theorem isnode_k (k : Int) (w0 w1 w2 w3 : Nat) (a b m M n : Int) (hx : Nd.Fits ⟨k, w0, w1, w2, w3, a, b, m, M, n⟩) (w : World) :
    Calls Tryz.prog 53 #[.agg #[.int .i64 k, .int .u64 w0, .int .u64 w1, .int .u64 w2, .int .u64 w3, .int .i64 a, .int .i64 b, .int .i64 m, .int .i64 M, .int .i64 n]] w fun e w' => e = .returned (.bool (isNd ⟨k, w0, w1, w2, w3, a, b, m, M, n⟩)) ∧ Below w.heap.size w w' := by
  have fz : Nd.Fits ⟨k, 0, 0, 0, 0, 0, 0, 0, 0, 0⟩ := ⟨hx.k, (by decide : (0 : Nat) < 18446744073709551616), (by decide : (0 : Nat) < 18446744073709551616), (by decide : (0 : Nat) < 18446744073709551616), (by decide : (0 : Nat) < 18446744073709551616), (by decide : -9223372036854775808 ≤ (0 : Int) ∧ (0 : Int) ≤ 9223372036854775807), (by decide : -9223372036854775808 ≤ (0 : Int) ∧ (0 : Int) ≤ 9223372036854775807), (by decide : -9223372036854775808 ≤ (0 : Int) ∧ (0 : Int) ≤ 9223372036854775807), (by decide : -9223372036854775808 ≤ (0 : Int) ∧ (0 : Int) ≤ 9223372036854775807), (by decide : -9223372036854775808 ≤ (0 : Int) ∧ (0 : Int) ≤ 9223372036854775807)⟩
  obtain ⟨ez, hez⟩ : ∃ c, c = decide ((⟨k, w0, w1, w2, w3, a, b, m, M, n⟩ : Nd) = (⟨k, 0, 0, 0, 0, 0, 0, 0, 0, 0⟩ : Nd)) := ⟨_, rfl⟩
  have qz : ∀ w, (Op.equalIn 10000 37 (.agg #[.int .i64 k, .int .u64 w0, .int .u64 w1, .int .u64 w2, .int .u64 w3, .int .i64 a, .int .i64 b, .int .i64 m, .int .i64 M, .int .i64 n]) (.agg #[.int .i64 k, .int .u64 0, .int .u64 0, .int .u64 0, .int .u64 0, .int .i64 0, .int .i64 0, .int .i64 0, .int .i64 0, .int .i64 0])).run Tryz.prog w = .ok ez w := fun w => by rw [hez]; exact eq_nd (⟨k, w0, w1, w2, w3, a, b, m, M, n⟩ : Nd) (⟨k, 0, 0, 0, 0, 0, 0, 0, 0, 0⟩ : Nd) hx fz w
  have f1 : Nd.Fits ⟨1, w0, w1, w2, w3, 0, 0, 0, 0, 0⟩ := ⟨(by decide : -9223372036854775808 ≤ (1 : Int) ∧ (1 : Int) ≤ 9223372036854775807), hx.s0, hx.s1, hx.s2, hx.s3, (by decide : -9223372036854775808 ≤ (0 : Int) ∧ (0 : Int) ≤ 9223372036854775807), (by decide : -9223372036854775808 ≤ (0 : Int) ∧ (0 : Int) ≤ 9223372036854775807), (by decide : -9223372036854775808 ≤ (0 : Int) ∧ (0 : Int) ≤ 9223372036854775807), (by decide : -9223372036854775808 ≤ (0 : Int) ∧ (0 : Int) ≤ 9223372036854775807), (by decide : -9223372036854775808 ≤ (0 : Int) ∧ (0 : Int) ≤ 9223372036854775807)⟩
  obtain ⟨e1, he1⟩ : ∃ c, c = decide ((⟨k, w0, w1, w2, w3, a, b, m, M, n⟩ : Nd) = (⟨1, w0, w1, w2, w3, 0, 0, 0, 0, 0⟩ : Nd)) := ⟨_, rfl⟩
  have q1 : ∀ w, (Op.equalIn 10000 37 (.agg #[.int .i64 k, .int .u64 w0, .int .u64 w1, .int .u64 w2, .int .u64 w3, .int .i64 a, .int .i64 b, .int .i64 m, .int .i64 M, .int .i64 n]) (.agg #[.int .i64 1, .int .u64 w0, .int .u64 w1, .int .u64 w2, .int .u64 w3, .int .i64 0, .int .i64 0, .int .i64 0, .int .i64 0, .int .i64 0])).run Tryz.prog w = .ok e1 w := fun w => by rw [he1]; exact eq_nd (⟨k, w0, w1, w2, w3, a, b, m, M, n⟩ : Nd) (⟨1, w0, w1, w2, w3, 0, 0, 0, 0, 0⟩ : Nd) hx f1 w
  have f2 : Nd.Fits ⟨k, 0, 0, 0, 0, a, b, 0, 0, 0⟩ := ⟨hx.k, (by decide : (0 : Nat) < 18446744073709551616), (by decide : (0 : Nat) < 18446744073709551616), (by decide : (0 : Nat) < 18446744073709551616), (by decide : (0 : Nat) < 18446744073709551616), hx.a, hx.b, (by decide : -9223372036854775808 ≤ (0 : Int) ∧ (0 : Int) ≤ 9223372036854775807), (by decide : -9223372036854775808 ≤ (0 : Int) ∧ (0 : Int) ≤ 9223372036854775807), (by decide : -9223372036854775808 ≤ (0 : Int) ∧ (0 : Int) ≤ 9223372036854775807)⟩
  obtain ⟨e2, he2⟩ : ∃ c, c = decide ((⟨k, w0, w1, w2, w3, a, b, m, M, n⟩ : Nd) = (⟨k, 0, 0, 0, 0, a, b, 0, 0, 0⟩ : Nd)) := ⟨_, rfl⟩
  have q2 : ∀ w, (Op.equalIn 10000 37 (.agg #[.int .i64 k, .int .u64 w0, .int .u64 w1, .int .u64 w2, .int .u64 w3, .int .i64 a, .int .i64 b, .int .i64 m, .int .i64 M, .int .i64 n]) (.agg #[.int .i64 k, .int .u64 0, .int .u64 0, .int .u64 0, .int .u64 0, .int .i64 a, .int .i64 b, .int .i64 0, .int .i64 0, .int .i64 0])).run Tryz.prog w = .ok e2 w := fun w => by rw [he2]; exact eq_nd (⟨k, w0, w1, w2, w3, a, b, m, M, n⟩ : Nd) (⟨k, 0, 0, 0, 0, a, b, 0, 0, 0⟩ : Nd) hx f2 w
  have f6 : Nd.Fits ⟨6, 0, 0, 0, 0, a, 0, m, M, 0⟩ := ⟨(by decide : -9223372036854775808 ≤ (6 : Int) ∧ (6 : Int) ≤ 9223372036854775807), (by decide : (0 : Nat) < 18446744073709551616), (by decide : (0 : Nat) < 18446744073709551616), (by decide : (0 : Nat) < 18446744073709551616), (by decide : (0 : Nat) < 18446744073709551616), hx.a, (by decide : -9223372036854775808 ≤ (0 : Int) ∧ (0 : Int) ≤ 9223372036854775807), hx.mn, hx.mx, (by decide : -9223372036854775808 ≤ (0 : Int) ∧ (0 : Int) ≤ 9223372036854775807)⟩
  obtain ⟨e6, he6⟩ : ∃ c, c = decide ((⟨k, w0, w1, w2, w3, a, b, m, M, n⟩ : Nd) = (⟨6, 0, 0, 0, 0, a, 0, m, M, 0⟩ : Nd)) := ⟨_, rfl⟩
  have q6 : ∀ w, (Op.equalIn 10000 37 (.agg #[.int .i64 k, .int .u64 w0, .int .u64 w1, .int .u64 w2, .int .u64 w3, .int .i64 a, .int .i64 b, .int .i64 m, .int .i64 M, .int .i64 n]) (.agg #[.int .i64 6, .int .u64 0, .int .u64 0, .int .u64 0, .int .u64 0, .int .i64 a, .int .i64 0, .int .i64 m, .int .i64 M, .int .i64 0])).run Tryz.prog w = .ok e6 w := fun w => by rw [he6]; exact eq_nd (⟨k, w0, w1, w2, w3, a, b, m, M, n⟩ : Nd) (⟨6, 0, 0, 0, 0, a, 0, m, M, 0⟩ : Nd) hx f6 w
  have f7 : Nd.Fits ⟨7, 0, 0, 0, 0, a, 0, 0, 0, n⟩ := ⟨(by decide : -9223372036854775808 ≤ (7 : Int) ∧ (7 : Int) ≤ 9223372036854775807), (by decide : (0 : Nat) < 18446744073709551616), (by decide : (0 : Nat) < 18446744073709551616), (by decide : (0 : Nat) < 18446744073709551616), (by decide : (0 : Nat) < 18446744073709551616), hx.a, (by decide : -9223372036854775808 ≤ (0 : Int) ∧ (0 : Int) ≤ 9223372036854775807), (by decide : -9223372036854775808 ≤ (0 : Int) ∧ (0 : Int) ≤ 9223372036854775807), (by decide : -9223372036854775808 ≤ (0 : Int) ∧ (0 : Int) ≤ 9223372036854775807), hx.n⟩
  obtain ⟨e7, he7⟩ : ∃ c, c = decide ((⟨k, w0, w1, w2, w3, a, b, m, M, n⟩ : Nd) = (⟨7, 0, 0, 0, 0, a, 0, 0, 0, n⟩ : Nd)) := ⟨_, rfl⟩
  have q7 : ∀ w, (Op.equalIn 10000 37 (.agg #[.int .i64 k, .int .u64 w0, .int .u64 w1, .int .u64 w2, .int .u64 w3, .int .i64 a, .int .i64 b, .int .i64 m, .int .i64 M, .int .i64 n]) (.agg #[.int .i64 7, .int .u64 0, .int .u64 0, .int .u64 0, .int .u64 0, .int .i64 a, .int .i64 0, .int .i64 0, .int .i64 0, .int .i64 n])).run Tryz.prog w = .ok e7 w := fun w => by rw [he7]; exact eq_nd (⟨k, w0, w1, w2, w3, a, b, m, M, n⟩ : Nd) (⟨7, 0, 0, 0, 0, a, 0, 0, 0, n⟩ : Nd) hx f7 w
  have f8 : Nd.Fits ⟨8, 0, 0, 0, 0, 0, 0, 0, 0, n⟩ := ⟨(by decide : -9223372036854775808 ≤ (8 : Int) ∧ (8 : Int) ≤ 9223372036854775807), (by decide : (0 : Nat) < 18446744073709551616), (by decide : (0 : Nat) < 18446744073709551616), (by decide : (0 : Nat) < 18446744073709551616), (by decide : (0 : Nat) < 18446744073709551616), (by decide : -9223372036854775808 ≤ (0 : Int) ∧ (0 : Int) ≤ 9223372036854775807), (by decide : -9223372036854775808 ≤ (0 : Int) ∧ (0 : Int) ≤ 9223372036854775807), (by decide : -9223372036854775808 ≤ (0 : Int) ∧ (0 : Int) ≤ 9223372036854775807), (by decide : -9223372036854775808 ≤ (0 : Int) ∧ (0 : Int) ≤ 9223372036854775807), hx.n⟩
  obtain ⟨e8, he8⟩ : ∃ c, c = decide ((⟨k, w0, w1, w2, w3, a, b, m, M, n⟩ : Nd) = (⟨8, 0, 0, 0, 0, 0, 0, 0, 0, n⟩ : Nd)) := ⟨_, rfl⟩
  have q8 : ∀ w, (Op.equalIn 10000 37 (.agg #[.int .i64 k, .int .u64 w0, .int .u64 w1, .int .u64 w2, .int .u64 w3, .int .i64 a, .int .i64 b, .int .i64 m, .int .i64 M, .int .i64 n]) (.agg #[.int .i64 8, .int .u64 0, .int .u64 0, .int .u64 0, .int .u64 0, .int .i64 0, .int .i64 0, .int .i64 0, .int .i64 0, .int .i64 n])).run Tryz.prog w = .ok e8 w := fun w => by rw [he8]; exact eq_nd (⟨k, w0, w1, w2, w3, a, b, m, M, n⟩ : Nd) (⟨8, 0, 0, 0, 0, 0, 0, 0, 0, n⟩ : Nd) hx f8 w
  obtain ⟨es, hes⟩ : ∃ c, c = decide (w0 = 0 ∧ w1 = 0 ∧ w2 = 0 ∧ w3 = 0) := ⟨_, rfl⟩
  have qs : ∀ w, (Op.equalIn 10000 24 (.agg #[.int .u64 w0, .int .u64 w1, .int .u64 w2, .int .u64 w3]) (.agg #[.int .u64 0, .int .u64 0, .int .u64 0, .int .u64 0])).run Tryz.prog w = .ok es w := fun w => by rw [hes]; exact eq_words w0 w1 w2 w3 0 0 0 0 hx.s0 hx.s1 hx.s2 hx.s3 (by decide) (by decide) (by decide) (by decide) w
  obtain ⟨r, hr⟩ : ∃ r, r = isNd ⟨k, w0, w1, w2, w3, a, b, m, M, n⟩ := ⟨_, rfl⟩
  rw [← hr]
  unfold isNd at hr
  simp only at hr
  obtain ⟨cm, hcm⟩ : ∃ c, c = isCnt m M := ⟨_, rfl⟩
  obtain ⟨cn, hcn⟩ : ∃ c, c = isNum n := ⟨_, rfl⟩
  rw [← hez, ← he1, ← he2, ← he6, ← he7, ← he8, ← hcm, ← hcn] at hr
  have C1 : ∀ w, Calls Tryz.prog 77 #[.int .i64 m, .int .i64 M] w fun e w' => e = .returned (.bool cm) ∧ w' = w := fun w => by rw [hcm]; exact iscount_c m M w
  have C2 : ∀ w, Calls Tryz.prog 78 #[.int .i64 n] w fun e w' => e = .returned (.bool cn) ∧ w' = w := fun w => by rw [hcn]; exact isnumber_c n w
  rw [show decide (¬ (w0 = 0 ∧ w1 = 0 ∧ w2 = 0 ∧ w3 = 0)) = !es by rw [hes]; simp] at hr
  have H1 := Lib.hid C1; have H2 := Lib.hid C2
  clear hez he1 he2 he6 he7 he8 hcm hcn hes C1 C2 fz f1 f2 f6 f7 f8
  have b0 : Below w.heap.size w (w.alloc (.cells #[.int .i64 k, .int .u64 w0, .int .u64 w1, .int .u64 w2, .int .u64 w3, .int .i64 a, .int .i64 b, .int .i64 m, .int .i64 M, .int .i64 n] 37)) := (Below.refl _ w).alloc (Nat.le_refl _) _
  by_cases h0 : k = 0
  · subst h0
    have hr : r = ez := by rw [hr]; rfl
    rw [hr]; clear hr
    all_goals (
      go_enter Tryz.func53, Tryz.ntmps53
      go_wp2_with (first | (go_at_call 77; refine (H1.out _).mono ?_; rintro e w1 ⟨rfl, rfl⟩) | (go_at_call 78; refine (H2.out _).mono ?_; rintro e w1 ⟨rfl, rfl⟩))
      all_goals go_ret
      all_goals exact ⟨rfl, b0⟩)
  by_cases h1 : k = 1
  · subst h1
    have hr : r = (!es && e1) := by rw [hr]; rfl
    rw [hr]; clear hr
    cases es <;> cases e1
    all_goals (
      go_enter Tryz.func53, Tryz.ntmps53
      go_wp2_with (first | (go_at_call 77; refine (H1.out _).mono ?_; rintro e w1 ⟨rfl, rfl⟩) | (go_at_call 78; refine (H2.out _).mono ?_; rintro e w1 ⟨rfl, rfl⟩))
      all_goals go_ret
      all_goals exact ⟨rfl, b0⟩)
  by_cases h2 : k = 2
  · subst h2
    have hr : r = ez := by rw [hr]; rfl
    rw [hr]; clear hr
    all_goals (
      go_enter Tryz.func53, Tryz.ntmps53
      go_wp2_with (first | (go_at_call 77; refine (H1.out _).mono ?_; rintro e w1 ⟨rfl, rfl⟩) | (go_at_call 78; refine (H2.out _).mono ?_; rintro e w1 ⟨rfl, rfl⟩))
      all_goals go_ret
      all_goals exact ⟨rfl, b0⟩)
  by_cases h3 : k = 3
  · subst h3
    have hr : r = ez := by rw [hr]; rfl
    rw [hr]; clear hr
    all_goals (
      go_enter Tryz.func53, Tryz.ntmps53
      go_wp2_with (first | (go_at_call 77; refine (H1.out _).mono ?_; rintro e w1 ⟨rfl, rfl⟩) | (go_at_call 78; refine (H2.out _).mono ?_; rintro e w1 ⟨rfl, rfl⟩))
      all_goals go_ret
      all_goals exact ⟨rfl, b0⟩)
  by_cases h4 : k = 4
  · subst h4
    have hr : r = e2 := by rw [hr]; rfl
    rw [hr]; clear hr
    all_goals (
      go_enter Tryz.func53, Tryz.ntmps53
      go_wp2_with (first | (go_at_call 77; refine (H1.out _).mono ?_; rintro e w1 ⟨rfl, rfl⟩) | (go_at_call 78; refine (H2.out _).mono ?_; rintro e w1 ⟨rfl, rfl⟩))
      all_goals go_ret
      all_goals exact ⟨rfl, b0⟩)
  by_cases h5 : k = 5
  · subst h5
    have hr : r = e2 := by rw [hr]; rfl
    rw [hr]; clear hr
    all_goals (
      go_enter Tryz.func53, Tryz.ntmps53
      go_wp2_with (first | (go_at_call 77; refine (H1.out _).mono ?_; rintro e w1 ⟨rfl, rfl⟩) | (go_at_call 78; refine (H2.out _).mono ?_; rintro e w1 ⟨rfl, rfl⟩))
      all_goals go_ret
      all_goals exact ⟨rfl, b0⟩)
  by_cases h6 : k = 6
  · subst h6
    have hr : r = (cm && e6) := by rw [hr]; rfl
    rw [hr]; clear hr
    cases cm <;> cases e6
    all_goals (
      go_enter Tryz.func53, Tryz.ntmps53
      go_wp2_with (first | (go_at_call 77; refine (H1.out _).mono ?_; rintro e w1 ⟨rfl, rfl⟩) | (go_at_call 78; refine (H2.out _).mono ?_; rintro e w1 ⟨rfl, rfl⟩))
      all_goals go_ret
      all_goals exact ⟨rfl, b0⟩)
  by_cases h7 : k = 7
  · subst h7
    have hr : r = (cn && e7) := by rw [hr]; rfl
    rw [hr]; clear hr
    cases cn <;> cases e7
    all_goals (
      go_enter Tryz.func53, Tryz.ntmps53
      go_wp2_with (first | (go_at_call 77; refine (H1.out _).mono ?_; rintro e w1 ⟨rfl, rfl⟩) | (go_at_call 78; refine (H2.out _).mono ?_; rintro e w1 ⟨rfl, rfl⟩))
      all_goals go_ret
      all_goals exact ⟨rfl, b0⟩)
  by_cases h8 : k = 8
  · subst h8
    have hr : r = (cn && e8) := by rw [hr]; rfl
    rw [hr]; clear hr
    cases cn <;> cases e8
    all_goals (
      go_enter Tryz.func53, Tryz.ntmps53
      go_wp2_with (first | (go_at_call 77; refine (H1.out _).mono ?_; rintro e w1 ⟨rfl, rfl⟩) | (go_at_call 78; refine (H2.out _).mono ?_; rintro e w1 ⟨rfl, rfl⟩))
      all_goals go_ret
      all_goals exact ⟨rfl, b0⟩)
  have hr : r = false := by rw [hr]; simp [h0, h1, h2, h3, h4, h5, h6, h7, h8]
  rw [hr]; clear hr
  go_enter Tryz.func53, Tryz.ntmps53
  go_wp2_with (first | (go_at_call 77; refine (H1.out _).mono ?_; rintro e w1 ⟨rfl, rfl⟩) | (go_at_call 78; refine (H2.out _).mono ?_; rintro e w1 ⟨rfl, rfl⟩))
  all_goals go_ret
  all_goals exact ⟨rfl, b0⟩

end Go.Proofs.YthbldjiibgnfmaaGreatDoor
