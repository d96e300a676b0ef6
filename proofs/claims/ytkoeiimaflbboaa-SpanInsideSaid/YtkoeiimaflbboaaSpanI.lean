/- The walk of the statement SpanInside. -/
import Derived.Test.YtkoeiimaflbboaaSpanH
import Derived.OpenShut
namespace Go.Proofs.Ytkoeiimaflbboaa
open Go.RowKit Go.Proofs.Ytkoeiimaflbboaa.Fl
set_option linter.unusedVariables false

theorem cutK_len (t : ByteArray) (m n : Nat) : (cutK t m n t.size).size = min n t.size - min m t.size := by
  unfold cutK; rw [ByteArray.size_extract]; omega

theorem wide (t : ByteArray) (m n p q : Nat) : max (cutK t m n t.size).size (cutK t p q t.size).size ≤ (cutK t (min m p) (max n q) t.size).size := by
  rw [cutK_len, cutK_len, cutK_len]; omega

theorem apart_or_meet (m n p q : Nat) (h0 : m ≤ n) (h1 : p ≤ q) (h : ¬ ((n : Int) - m + ((q : Int) - p) ≤ ((max n q : Nat) : Int) - (min m p : Nat))) :
    meetB (some ((m : Int), (n : Int))) (some ((p : Int), (q : Int))) = true := by
  unfold meetB
  simp only [decide_eq_true_eq]
  omega

theorem min_max_if (a b : Int) (h0 : 0 ≤ a) (h1 : a ≤ 255) (h2 : 0 ≤ b) (h3 : b ≤ 255) :
    ∃ m n : Nat, (if b < a then b else a) = (m : Int) ∧ (if a < b then b else a) = (n : Int) ∧ m ≤ n ∧ n ≤ 255 := by
  refine ⟨(if b < a then b else a).toNat, (if a < b then b else a).toNat, ?_, ?_, ?_, ?_⟩ <;> (repeat' split) <;> omega

set_option maxHeartbeats 8000000 in
/-- The walk, for spans that have been worked out. -/
theorem inside_ok (t : ByteArray) (a b c d : Int) (m n p q : Nat) (wt : t.size ≤ maxLen) (hc : t.size ≤ 300)
    (ba0 : 0 ≤ a) (ba1 : a ≤ 255) (bb0 : 0 ≤ b) (bb1 : b ≤ 255) (bc0 : 0 ≤ c) (bc1 : c ≤ 255) (bd0 : 0 ≤ d) (bd1 : d ≤ 255)
    (e1 : (if b < a then b else a) = (m : Int)) (e2 : (if a < b then b else a) = (n : Int)) (hmn : m ≤ n) (hn : n ≤ 255)
    (e3 : (if d < c then d else c) = (p : Int)) (e4 : (if c < d then d else c) = (q : Int)) (hpq : p ≤ q) (hq : q ≤ 255) (w : World) :
    Calls Try.prog 9 #[.string t, .int .u8 a, .int .u8 b, .int .u8 c, .int .u8 d] w fun e w' => e = .returned (.bool true) ∧ Grown w w' := by
  have wt' := wt
  unfold maxLen at wt'
  have q0 : ¬ 300 < t.size := by omega
  have hp : (2 : Nat) ^ 53 = 9007199254740992 := rfl
  have vm := val_floatOfInt (n := (m : Int)) (by omega)
  have vn := val_floatOfInt (n := (n : Int)) (by omega)
  have vp := val_floatOfInt (n := (p : Int)) (by omega)
  have vq := val_floatOfInt (n := (q : Int)) (by omega)
  have s1 := sp_of vm vn (by omega) (by omega) (by omega)
  have s2 := sp_of vp vq (by omega) (by omega) (by omega)
  have K1 := Lib.hid (fun w => shown_true w)
  have K2 := Lib.hid (fun w => of_yes (m : Int) (n : Int) w (by omega) (by omega) (by omega))
  have K3 := Lib.hid (fun w => of_yes (p : Int) (q : Int) w (by omega) (by omega) (by omega))
  have K4 := Lib.hid (fun w => hull_both _ _ _ _ _ _ _ _ w s1 s2)
  have K5 := Lib.hid (fun w => from_yes _ _ _ _ w s1)
  have K6 := Lib.hid (fun w => to_yes _ _ _ _ w s2)
  have K7 := Lib.hid (fun w => hull_both _ _ _ _ _ _ _ _ w s2 s1)
  have K8 := Lib.hid (fun w => cut_yes t _ _ m n w wt s1)
  have K9 := Lib.hid (fun w => cut_yes t _ _ p q w wt s2)
  have K10 := Lib.hid (fun w => len_yes _ _ _ _ w s1)
  have K11 := Lib.hid (fun w => len_yes _ _ _ _ w s2)
  have C12 := fun w => meet_any (floatOfInt .f64 m) (floatOfInt .f64 n) (floatOfInt .f64 p) (floatOfInt .f64 q) w
  rw [s1, s2] at C12
  have K12 := Lib.hid C12
  have S1 := Lib.hid s1
  have am := Lib.hid (apart_or_meet m n p q hmn hpq)
  have hw := wide t m n p q
  have z1 := cutK_size t m n t.size
  have z2 := cutK_size t p q t.size
  have z3 := cutK_size t (min m p) (max n q) t.size
  have k1 : (cutK t m n t.size).size ≤ (cutK t (min m p) (max n q) t.size).size := by omega
  have k2 : (cutK t p q t.size).size ≤ (cutK t (min m p) (max n q) t.size).size := by omega
  have WT := Lib.hid wt
  clear C12 s1 s2 vm vn vp vq hp hw wt
  generalize hr1 : cutK t m n t.size = r1 at *
  generalize hr2 : cutK t p q t.size = r2 at *
  have R1 := Lib.hid hr1
  have R2 := Lib.hid hr2
  clear hr1 hr2
  go_enter Try.func9, Try.ntmps9
  go_wp2_with fail
  refine (K2.out _).mono ?_; rintro e w' ⟨rfl, rfl⟩
  go_wp2_with fail
  refine (K3.out _).mono ?_; rintro e w' ⟨rfl, rfl⟩
  go_wp2_with fail
  refine (K1.out _).mono ?_; rintro e w' ⟨rfl, rfl⟩
  go_wp2_with fail
  refine (K4.out _).mono ?_; rintro e w' ⟨h1, h2, rfl, v1, v2, rfl⟩
  have s3 := sp_of v1 v2 (by omega) (by omega) (by omega)
  have K13 := Lib.hid (fun w => from_yes _ _ _ _ w s3)
  have K14 := Lib.hid (fun w => to_yes _ _ _ _ w s3)
  have K15 := Lib.hid (fun w => hull_both _ _ _ _ _ _ _ _ w s3 S1.out)
  have C16 := fun w => cut_yes t h1 h2 (min m p) (max n q) w WT.out (by rw [s3]; congr 2 <;> omega)
  have K17 := Lib.hid (fun w => len_yes _ _ _ _ w s3)
  have V1 := Lib.hid v1
  have V2 := Lib.hid v2
  clear s3 v1 v2
  generalize cutK t (min m p) (max n q) t.size = r3 at *
  have K16 := Lib.hid C16
  clear C16
  have g1 : ¬ (m : Int) < min (m : Int) p := by omega
  have g2 : ¬ max (n : Int) q < (q : Int) := by omega
  go_wp2_with fail
  refine (K13.out _).mono ?_; rintro e w' ⟨rfl, rfl⟩
  go_wp2_with fail
  refine (K5.out _).mono ?_; rintro e w' ⟨rfl, rfl⟩
  go_wp2_with fail
  refine (K14.out _).mono ?_; rintro e w' ⟨rfl, rfl⟩
  go_wp2_with fail
  refine (K6.out _).mono ?_; rintro e w' ⟨rfl, rfl⟩
  go_wp2_with fail
  refine (K15.out _).mono ?_; rintro e w' ⟨h3, h4, rfl, v3, v4, rfl⟩
  have x1 : FloatKind.f64.format.order h3 h1 = some .eq := by
    rw [order_rfl, order_val v3 V1.out, show min (min (m : Int) p) m = min (m : Int) p from by omega, compare_self]
  have x2 : FloatKind.f64.format.order h4 h2 = some .eq := by
    rw [order_rfl, order_val v4 V2.out, show max (max (n : Int) q) n = max (n : Int) q from by omega, compare_self]
  clear v3 v4
  go_wp2_with fail
  refine (K7.out _).mono ?_; rintro e w' ⟨h5, h6, rfl, v3, v4, rfl⟩
  have x3 : FloatKind.f64.format.order h5 h1 = some .eq := by
    rw [order_rfl, order_val v3 V1.out, show min (p : Int) m = min (m : Int) p from by omega, compare_self]
  have x4 : FloatKind.f64.format.order h6 h2 = some .eq := by
    rw [order_rfl, order_val v4 V2.out, show max (q : Int) n = max (n : Int) q from by omega, compare_self]
  clear v3 v4
  go_wp2_with fail
  refine (K16.out _).mono ?_; rintro e w' ⟨rfl, rfl⟩
  go_wp2_with fail
  refine (K8.out _).mono ?_; rintro e w' ⟨rfl, rfl⟩
  go_wp2_with fail
  refine (K9.out _).mono ?_; rintro e w' ⟨rfl, rfl⟩
  go_wp2_with fail
  all_goals
    refine (K10.out _).mono ?_; rintro e w' ⟨rfl, rfl⟩
    go_wp2_with fail
    refine (K11.out _).mono ?_; rintro e w' ⟨rfl, rfl⟩
    go_wp2_with fail
    refine (K17.out _).mono ?_; rintro e w' ⟨rfl, rfl⟩
    by_cases hl : (n : Int) - m + ((q : Int) - p) ≤ max (n : Int) q - min (m : Int) p
    · go_wp2
      go_ret
      exact ⟨rfl, Grown.refl _⟩
    · have mt := am.out (by omega)
      go_wp2_with fail
      refine (K12.out _).mono ?_; rintro e w' ⟨rfl, rfl⟩
      rw [mt]
      go_wp2
      go_ret
      exact ⟨rfl, Grown.refl _⟩

theorem inside_walk (t : ByteArray) (a b c d : Int) (wt : t.size ≤ maxLen) (wa : (Lit.int .u8 a).wf = true) (wb : (Lit.int .u8 b).wf = true) (wc : (Lit.int .u8 c).wf = true) (wd : (Lit.int .u8 d).wf = true) (w : World) :
    Calls Try.prog 9 #[.string t, .int .u8 a, .int .u8 b, .int .u8 c, .int .u8 d] w fun e w' => e = .returned (.bool true) ∧ Grown w w' := by
  obtain ⟨ba0, ba1⟩ := bounds_u8 wa
  obtain ⟨bb0, bb1⟩ := bounds_u8 wb
  obtain ⟨bc0, bc1⟩ := bounds_u8 wc
  obtain ⟨bd0, bd1⟩ := bounds_u8 wd
  obtain ⟨m, n, e1, e2, hmn, hn⟩ := min_max_if a b ba0 ba1 bb0 bb1
  obtain ⟨p, q, e3, e4, hpq, hq⟩ := min_max_if c d bc0 bc1 bd0 bd1
  by_cases hc : t.size ≤ 300
  · exact inside_ok t a b c d m n p q wt hc ba0 ba1 bb0 bb1 bc0 bc1 bd0 bd1 e1 e2 hmn hn e3 e4 hpq hq w
  · have q0 : 300 < t.size := by omega
    have wt' := wt
    unfold maxLen at wt'
    have K1 := Lib.hid (fun w => shown_true w)
    have K2 := Lib.hid (fun w => of_yes (m : Int) (n : Int) w (by omega) (by omega) (by omega))
    have K3 := Lib.hid (fun w => of_yes (p : Int) (q : Int) w (by omega) (by omega) (by omega))
    clear wa wb wc wd
    go_enter Try.func9, Try.ntmps9
    go_wp2_with fail
    refine (K2.out _).mono ?_; rintro e w' ⟨rfl, rfl⟩
    go_wp2_with fail
    refine (K3.out _).mono ?_; rintro e w' ⟨rfl, rfl⟩
    go_wp2_with fail
    refine (K1.out _).mono ?_; rintro e w' ⟨rfl, rfl⟩
    go_wp2
    go_ret
    exact ⟨rfl, Grown.refl _⟩

end Go.Proofs.Ytkoeiimaflbboaa
