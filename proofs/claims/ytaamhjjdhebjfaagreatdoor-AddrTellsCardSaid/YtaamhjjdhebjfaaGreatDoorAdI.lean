/- May. -/
import Derived.Test.YtaamhjjdhebjfaaGreatDoorAdH
namespace Go.Proofs.YtaamhjjdhebjfaaGreatDoor
open Go.RowKit
set_option linter.unusedVariables false
set_option linter.unusedSimpArgs false

theorem below_drewN {B : Nat} {w w' : World} (h : Below B w w') : ∀ k, Below B w (w'.drewN k)
  | 0 => h
  | k + 1 => (below_drewN h k).drew
def upB (n mo : Int) : Bool := decide (0 ≤ n) && decide (n ≤ mo)
set_option maxRecDepth 100000 in
set_option maxHeartbeats 8000000 in
theorem isupto_c (n mo : Int) (w : World) : Calls Tryz.prog 33 #[.int .i64 n, .int .i64 mo] w fun e w' => e = .returned (.bool (upB n mo)) ∧ w' = w := by
  unfold upB
  by_cases h1 : 0 ≤ n
  · have t1 : decide (0 ≤ n) = true := by simp [h1]
    go_enter Tryz.func33, Tryz.ntmps33
    go_wp2
    go_ret
    exact ⟨by simp [h1], rfl⟩
  · have t1 : decide (0 ≤ n) = false := by simp; omega
    go_enter Tryz.func33, Tryz.ntmps33
    go_wp2
    go_ret
    exact ⟨by simp [h1], rfl⟩

set_option maxRecDepth 100000 in
set_option maxHeartbeats 8000000 in
theorem isaddr_c (a : Ad) (w : World) : Calls Tryz.prog 21 #[adv a] w fun e w' => e = .returned (.bool (isAd a)) ∧ Below w.heap.size w w' := by
  by_cases hr : 0 ≤ a.k ∧ a.k ≤ 6
  · rcases (by omega : a.k = 0 ∨ a.k = 1 ∨ a.k = 2 ∨ a.k = 3 ∨ a.k = 4 ∨ a.k = 5 ∨ a.k = 6) with q | q | q | q | q | q | q
    · obtain ⟨k, n, m⟩ := a
      obtain rfl : k = 0 := q
      have e : isAd ⟨0, n, m⟩ = (upB n 0 && upB m 0) := by
        rw [Bool.eq_iff_iff]; simp [isAd, upB]; try omega
      rw [e]
      have HK := Lib.hid (fun w => iskind_c 0 w)
      rw [show (decide ((0 : Int) ≤ 0) && decide ((0 : Int) < 7)) = true from rfl] at HK
      have HX := Lib.hid (fun w => isupto_c n 0 w)
      have HY := Lib.hid (fun w => isupto_c m 0 w)
      generalize upB n 0 = X at HX ⊢
      generalize upB m 0 = Y at HY ⊢
      have HB := Lib.hid (Below.al3 w)
      unfold adv
      clear e hr
      cases X
      · go_enter Tryz.func21, Tryz.ntmps21
        go_wp2_with fail
        refine (HK.out _).mono ?_
        rintro e w1 ⟨rfl, rfl⟩
        go_wp2_with fail
        go_quiet (first | with_reducible exact Calls.quiet_of_same (HX.out _) | with_reducible exact Calls.quiet_of_same (HY.out _))
        go_wp2
        go_ret
        exact ⟨rfl, below_drewN (HB.out _ _ _) _⟩
      · go_enter Tryz.func21, Tryz.ntmps21
        go_wp2_with fail
        refine (HK.out _).mono ?_
        rintro e w1 ⟨rfl, rfl⟩
        go_wp2_with fail
        go_quiet (first | with_reducible exact Calls.quiet_of_same (HX.out _) | with_reducible exact Calls.quiet_of_same (HY.out _))
        go_wp2
        go_ret
        exact ⟨rfl, below_drewN (HB.out _ _ _) _⟩
    · obtain ⟨k, n, m⟩ := a
      obtain rfl : k = 1 := q
      have e : isAd ⟨1, n, m⟩ = (upB n 999999999 && upB m 0) := by
        rw [Bool.eq_iff_iff]; simp [isAd, upB]; try omega
      rw [e]
      have HK := Lib.hid (fun w => iskind_c 1 w)
      rw [show (decide ((0 : Int) ≤ 1) && decide ((1 : Int) < 7)) = true from rfl] at HK
      have HX := Lib.hid (fun w => isupto_c n 999999999 w)
      have HY := Lib.hid (fun w => isupto_c m 0 w)
      generalize upB n 999999999 = X at HX ⊢
      generalize upB m 0 = Y at HY ⊢
      have HB := Lib.hid (Below.al3 w)
      unfold adv
      clear e hr
      cases X
      · go_enter Tryz.func21, Tryz.ntmps21
        go_wp2_with fail
        refine (HK.out _).mono ?_
        rintro e w1 ⟨rfl, rfl⟩
        go_wp2_with fail
        go_quiet (first | with_reducible exact Calls.quiet_of_same (HX.out _) | with_reducible exact Calls.quiet_of_same (HY.out _))
        go_wp2
        go_ret
        exact ⟨rfl, below_drewN (HB.out _ _ _) _⟩
      · go_enter Tryz.func21, Tryz.ntmps21
        go_wp2_with fail
        refine (HK.out _).mono ?_
        rintro e w1 ⟨rfl, rfl⟩
        go_wp2_with fail
        go_quiet (first | with_reducible exact Calls.quiet_of_same (HX.out _) | with_reducible exact Calls.quiet_of_same (HY.out _))
        go_wp2
        go_ret
        exact ⟨rfl, below_drewN (HB.out _ _ _) _⟩
    · obtain ⟨k, n, m⟩ := a
      obtain rfl : k = 2 := q
      have e : isAd ⟨2, n, m⟩ = (upB n 0 && upB m 0) := by
        rw [Bool.eq_iff_iff]; simp [isAd, upB]; try omega
      rw [e]
      have HK := Lib.hid (fun w => iskind_c 2 w)
      rw [show (decide ((0 : Int) ≤ 2) && decide ((2 : Int) < 7)) = true from rfl] at HK
      have HX := Lib.hid (fun w => isupto_c n 0 w)
      have HY := Lib.hid (fun w => isupto_c m 0 w)
      generalize upB n 0 = X at HX ⊢
      generalize upB m 0 = Y at HY ⊢
      have HB := Lib.hid (Below.al3 w)
      unfold adv
      clear e hr
      cases X
      · go_enter Tryz.func21, Tryz.ntmps21
        go_wp2_with fail
        refine (HK.out _).mono ?_
        rintro e w1 ⟨rfl, rfl⟩
        go_wp2_with fail
        go_quiet (first | with_reducible exact Calls.quiet_of_same (HX.out _) | with_reducible exact Calls.quiet_of_same (HY.out _))
        go_wp2
        go_ret
        exact ⟨rfl, below_drewN (HB.out _ _ _) _⟩
      · go_enter Tryz.func21, Tryz.ntmps21
        go_wp2_with fail
        refine (HK.out _).mono ?_
        rintro e w1 ⟨rfl, rfl⟩
        go_wp2_with fail
        go_quiet (first | with_reducible exact Calls.quiet_of_same (HX.out _) | with_reducible exact Calls.quiet_of_same (HY.out _))
        go_wp2
        go_ret
        exact ⟨rfl, below_drewN (HB.out _ _ _) _⟩
    · obtain ⟨k, n, m⟩ := a
      obtain rfl : k = 3 := q
      have e : isAd ⟨3, n, m⟩ = (upB n 999999999 && upB m 999999999) := by
        rw [Bool.eq_iff_iff]; simp [isAd, upB]; try omega
      rw [e]
      have HK := Lib.hid (fun w => iskind_c 3 w)
      rw [show (decide ((0 : Int) ≤ 3) && decide ((3 : Int) < 7)) = true from rfl] at HK
      have HX := Lib.hid (fun w => isupto_c n 999999999 w)
      have HY := Lib.hid (fun w => isupto_c m 999999999 w)
      generalize upB n 999999999 = X at HX ⊢
      generalize upB m 999999999 = Y at HY ⊢
      have HB := Lib.hid (Below.al3 w)
      unfold adv
      clear e hr
      cases X
      · go_enter Tryz.func21, Tryz.ntmps21
        go_wp2_with fail
        refine (HK.out _).mono ?_
        rintro e w1 ⟨rfl, rfl⟩
        go_wp2_with fail
        go_quiet (first | with_reducible exact Calls.quiet_of_same (HX.out _) | with_reducible exact Calls.quiet_of_same (HY.out _))
        go_wp2
        go_ret
        exact ⟨rfl, below_drewN (HB.out _ _ _) _⟩
      · go_enter Tryz.func21, Tryz.ntmps21
        go_wp2_with fail
        refine (HK.out _).mono ?_
        rintro e w1 ⟨rfl, rfl⟩
        go_wp2_with fail
        go_quiet (first | with_reducible exact Calls.quiet_of_same (HX.out _) | with_reducible exact Calls.quiet_of_same (HY.out _))
        go_wp2
        go_ret
        exact ⟨rfl, below_drewN (HB.out _ _ _) _⟩
    · obtain ⟨k, n, m⟩ := a
      obtain rfl : k = 4 := q
      have e : isAd ⟨4, n, m⟩ = (upB n 999 && upB m 0) := by
        rw [Bool.eq_iff_iff]; simp [isAd, upB]; try omega
      rw [e]
      have HK := Lib.hid (fun w => iskind_c 4 w)
      rw [show (decide ((0 : Int) ≤ 4) && decide ((4 : Int) < 7)) = true from rfl] at HK
      have HX := Lib.hid (fun w => isupto_c n 999 w)
      have HY := Lib.hid (fun w => isupto_c m 0 w)
      generalize upB n 999 = X at HX ⊢
      generalize upB m 0 = Y at HY ⊢
      have HB := Lib.hid (Below.al3 w)
      unfold adv
      clear e hr
      cases X
      · go_enter Tryz.func21, Tryz.ntmps21
        go_wp2_with fail
        refine (HK.out _).mono ?_
        rintro e w1 ⟨rfl, rfl⟩
        go_wp2_with fail
        go_quiet (first | with_reducible exact Calls.quiet_of_same (HX.out _) | with_reducible exact Calls.quiet_of_same (HY.out _))
        go_wp2
        go_ret
        exact ⟨rfl, below_drewN (HB.out _ _ _) _⟩
      · go_enter Tryz.func21, Tryz.ntmps21
        go_wp2_with fail
        refine (HK.out _).mono ?_
        rintro e w1 ⟨rfl, rfl⟩
        go_wp2_with fail
        go_quiet (first | with_reducible exact Calls.quiet_of_same (HX.out _) | with_reducible exact Calls.quiet_of_same (HY.out _))
        go_wp2
        go_ret
        exact ⟨rfl, below_drewN (HB.out _ _ _) _⟩
    · obtain ⟨k, n, m⟩ := a
      obtain rfl : k = 5 := q
      have e : isAd ⟨5, n, m⟩ = (upB n 999999999 && upB m 0) := by
        rw [Bool.eq_iff_iff]; simp [isAd, upB]; try omega
      rw [e]
      have HK := Lib.hid (fun w => iskind_c 5 w)
      rw [show (decide ((0 : Int) ≤ 5) && decide ((5 : Int) < 7)) = true from rfl] at HK
      have HX := Lib.hid (fun w => isupto_c n 999999999 w)
      have HY := Lib.hid (fun w => isupto_c m 0 w)
      generalize upB n 999999999 = X at HX ⊢
      generalize upB m 0 = Y at HY ⊢
      have HB := Lib.hid (Below.al3 w)
      unfold adv
      clear e hr
      cases X
      · go_enter Tryz.func21, Tryz.ntmps21
        go_wp2_with fail
        refine (HK.out _).mono ?_
        rintro e w1 ⟨rfl, rfl⟩
        go_wp2_with fail
        go_quiet (first | with_reducible exact Calls.quiet_of_same (HX.out _) | with_reducible exact Calls.quiet_of_same (HY.out _))
        go_wp2
        go_ret
        exact ⟨rfl, below_drewN (HB.out _ _ _) _⟩
      · go_enter Tryz.func21, Tryz.ntmps21
        go_wp2_with fail
        refine (HK.out _).mono ?_
        rintro e w1 ⟨rfl, rfl⟩
        go_wp2_with fail
        go_quiet (first | with_reducible exact Calls.quiet_of_same (HX.out _) | with_reducible exact Calls.quiet_of_same (HY.out _))
        go_wp2
        go_ret
        exact ⟨rfl, below_drewN (HB.out _ _ _) _⟩
    · obtain ⟨k, n, m⟩ := a
      obtain rfl : k = 6 := q
      have e : isAd ⟨6, n, m⟩ = (upB n 999999999 && upB m 0) := by
        rw [Bool.eq_iff_iff]; simp [isAd, upB]; try omega
      rw [e]
      have HK := Lib.hid (fun w => iskind_c 6 w)
      rw [show (decide ((0 : Int) ≤ 6) && decide ((6 : Int) < 7)) = true from rfl] at HK
      have HX := Lib.hid (fun w => isupto_c n 999999999 w)
      have HY := Lib.hid (fun w => isupto_c m 0 w)
      generalize upB n 999999999 = X at HX ⊢
      generalize upB m 0 = Y at HY ⊢
      have HB := Lib.hid (Below.al3 w)
      unfold adv
      clear e hr
      cases X
      · go_enter Tryz.func21, Tryz.ntmps21
        go_wp2_with fail
        refine (HK.out _).mono ?_
        rintro e w1 ⟨rfl, rfl⟩
        go_wp2_with fail
        go_quiet (first | with_reducible exact Calls.quiet_of_same (HX.out _) | with_reducible exact Calls.quiet_of_same (HY.out _))
        go_wp2
        go_ret
        exact ⟨rfl, below_drewN (HB.out _ _ _) _⟩
      · go_enter Tryz.func21, Tryz.ntmps21
        go_wp2_with fail
        refine (HK.out _).mono ?_
        rintro e w1 ⟨rfl, rfl⟩
        go_wp2_with fail
        go_quiet (first | with_reducible exact Calls.quiet_of_same (HX.out _) | with_reducible exact Calls.quiet_of_same (HY.out _))
        go_wp2
        go_ret
        exact ⟨rfl, below_drewN (HB.out _ _ _) _⟩
  · have e : isAd a = false := by
      unfold isAd
      rw [if_neg (by omega), if_neg (by omega), if_neg (by omega), if_neg (by omega)]
    rw [e]
    obtain ⟨k, n, m⟩ := a
    simp only at hr
    have HK := Lib.hid (fun w => iskind_c k w)
    rw [show (decide (0 ≤ k) && decide (k < 7)) = false by simp; omega] at HK
    unfold adv
    clear e hr
    go_enter Tryz.func21, Tryz.ntmps21
    go_wp2_with fail
    refine (HK.out _).mono ?_
    rintro e w1 ⟨rfl, rfl⟩
    go_wp2
    go_ret
    exact ⟨rfl, (Below.refl _ w).alloc (Nat.le_refl _) _⟩


end Go.Proofs.YtaamhjjdhebjfaaGreatDoor
