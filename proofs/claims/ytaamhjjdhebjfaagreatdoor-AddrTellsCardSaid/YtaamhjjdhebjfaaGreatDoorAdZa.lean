/- The reference's Digits, show; one, May, Print. -/
import Derived.Test.YtaamhjjdhebjfaaGreatDoorAdR
import Derived.Test.YtaamhjjdhebjfaaGreatDoorAdL
import Derived.BigQuiet
import Derived.Deep.RegionHeld3
import Derived.Laws.DeepStrings4
namespace Go.Proofs.YtaamhjjdhebjfaaGreatDoor
open Go.RowKit Go.Lib
set_option linter.unusedVariables false
set_option linter.unusedSimpArgs false

theorem cut10 : ∀ q, q < 10 → ((⟨#[48, 49, 50, 51, 52, 53, 54, 55, 56, 57]⟩ : ByteArray).extract q (q + 1)).data.toList = [UInt8.ofNat (48 + q)] := by decide +kernel
theorem slice10 (q : Nat) (h : q < 10) (w : World) : (Instr.slice 9 (.string ⟨#[48, 49, 50, 51, 52, 53, 54, 55, 56, 57]⟩) (some (.int .u64 (q : Int))) (some (.int .u64 ((q : Int) + 1))) none).run Tryz.prog w = .ok (.string ⟨#[UInt8.ofNat (48 + q)]⟩) w := by
  have hs : (⟨#[48, 49, 50, 51, 52, 53, 54, 55, 56, 57]⟩ : ByteArray).size = 10 := rfl
  rw [run_slice_string_if (P := Tryz.prog) w 9 _ .u64 .u64 (q : Int) ((q : Int) + 1) Tryz.underlying9, if_pos ⟨by omega, by rw [hs]; omega⟩, if_pos ⟨by omega, by omega⟩]
  rw [show ((q : Int) + 1).toNat = q + 1 by omega, show ((q : Int)).toNat = q by omega]
  have : (⟨#[48, 49, 50, 51, 52, 53, 54, 55, 56, 57]⟩ : ByteArray).extract q (q + 1) = ⟨#[UInt8.ofNat (48 + q)]⟩ := by
    apply ByteArray.ext
    apply Array.ext'
    exact cut10 q h
  rw [this]
theorem dec_len (n : Nat) : (decDigits n).length ≤ n + 1 := by
  induction n using Nat.strongRecOn with
  | _ n ih =>
    by_cases h : n < 10
    · rw [decDigits_one h]; simp
    · rw [decDigits, dif_neg (by omega), List.length_append]
      have := ih (n / 10) (by omega)
      simp only [List.length_cons, List.length_nil]
      omega
set_option maxRecDepth 100000 in
set_option maxHeartbeats 4000000 in
theorem natural_1 (n : Nat) (h : n < 10) (w : World) :
    Calls Tryz.prog 41 #[.int .u64 (n : Int)] w fun e w' => e = .returned (.string ⟨(decDigits n).toArray⟩) ∧ Below w.heap.size w w' := by
  have x1 := fun w => slice10 n h w
  have hd := decDigits_one h
  obtain ⟨c, hc⟩ : ∃ c, c = UInt8.ofNat (48 + n) := ⟨_, rfl⟩
  rw [← hc] at x1 hd
  rw [hd]
  clear hd hc
  have hw : IntKind.u64.wrap ((n : Int) + 1) = (n : Int) + 1 := by simp [IntKind.wrap, IntKind.signed, IntKind.bits]; omega
  have h1 : ((n : Int) < 10) = True := by simp; omega
  go_enter Tryz.func41, Tryz.ntmps41
  go_wp2
  go_ret
  exact ⟨rfl, Below.refl _ _⟩

theorem dec_split (n : Nat) (h : 10 ≤ n) : decDigits n = decDigits (n / 10) ++ [UInt8.ofNat (48 + n % 10)] := by
  rw [decDigits, dif_neg (by omega)]

set_option maxRecDepth 100000 in
set_option maxHeartbeats 4000000 in
theorem natural_2 (n : Nat) (h : 10 ≤ n) (hn : n < 1000000000000) (ih : ∀ w, Calls Tryz.prog 41 #[.int .u64 ((n / 10 : Nat) : Int)] w fun e w' => e = .returned (.string ⟨(decDigits (n / 10)).toArray⟩) ∧ Below w.heap.size w w') (w : World) :
    Calls Tryz.prog 41 #[.int .u64 (n : Int)] w fun e w' => e = .returned (.string ⟨(decDigits n).toArray⟩) ∧ Below w.heap.size w w' := by
  have h1 : ((n : Int) < 10) = False := by simp; omega
  have hds := dec_split n h
  obtain ⟨q, hq⟩ : ∃ q, q = n / 10 := ⟨_, rfl⟩
  obtain ⟨r, hr⟩ : ∃ r, r = n % 10 := ⟨_, rfl⟩
  rw [← hq, ← hr] at hds
  obtain ⟨c, hc⟩ : ∃ c, c = UInt8.ofNat (48 + r) := ⟨_, rfl⟩
  rw [← hc] at hds
  rw [← hq] at ih
  have r10 : r < 10 := by omega
  have x1 := fun w => slice10 r r10 w
  rw [← hc] at x1
  have e1 : (n : Int) / 10 = (q : Int) := by omega
  have e2 : (n : Int) % 10 = (r : Int) := by omega
  have e1' : (n : Int).tdiv 10 = (q : Int) := by rw [Int.tdiv_eq_ediv_of_nonneg (by omega)]; omega
  have e2' : (n : Int).tmod 10 = (r : Int) := by rw [Int.tmod_eq_emod_of_nonneg (by omega)]; omega
  have hw : IntKind.u64.wrap ((r : Int) + 1) = (r : Int) + 1 := by simp [IntKind.wrap, IntKind.signed, IntKind.bits]; omega
  have hw2 : IntKind.u64.wrap (q : Int) = (q : Int) := by simp [IntKind.wrap, IntKind.signed, IntKind.bits]; omega
  have hw3 : IntKind.u64.wrap (r : Int) = (r : Int) := by simp [IntKind.wrap, IntKind.signed, IntKind.bits]; omega
  have hL := dec_len q
  have hL1 : (9223372036854775807 < (decDigits q).length + 1) = False := by simp; omega
  have IH := Lib.hid ih
  have HD := Lib.hid hds
  clear ih hds hq hr hc
  go_enter Tryz.func41, Tryz.ntmps41
  go_wp2_with fail
  refine wp_region_noPanic ?_
  refine wp_region_held_drew (S := fun w' => Below w.heap.size w w') (by kernel_rfl) ?_ (fun hHeld => ?_)
  · (try dsimp only); exact (Below.refl _ w).drew
  refine wpAnyH_take (i := 0) (v := ?_) rfl (by kernel_rfl) (by kernel_rfl) (by kernel_rfl) (fun _ _ _ h => h) (Or.inl ⟨by kernel_rfl, ?_⟩) (by assumption) ?_
  rotate_left
  · (intro w hSw; (try dsimp only at hSw); go_simp); (try with_reducible rfl)
  try simp only [Act.put, List.getElem_toArray, List.getElem_cons_succ, List.getElem_cons_zero, List.setIfInBounds_toArray, List.set_cons_zero, List.set_cons_succ]
  refine wpAnyH_take (i := 1) (v := ?_) rfl (by kernel_rfl) (by kernel_rfl) (by kernel_rfl) (fun _ _ _ h => h) (Or.inl ⟨by kernel_rfl, ?_⟩) (by assumption) ?_
  rotate_left
  · (intro w hSw; (try dsimp only at hSw); go_simp); (try with_reducible rfl)
  try simp only [Act.put, List.getElem_toArray, List.getElem_cons_succ, List.getElem_cons_zero, List.setIfInBounds_toArray, List.set_cons_zero, List.set_cons_succ]
  refine wpAnyH_take (i := 3) (v := ?_) rfl (by kernel_rfl) (by kernel_rfl) (by kernel_rfl) (fun _ _ _ h => h) (Or.inl ⟨by kernel_rfl, ?_⟩) (by assumption) ?_
  rotate_left
  · (intro w hSw; (try dsimp only at hSw); go_simp); (try with_reducible rfl)
  try simp only [Act.put, List.getElem_toArray, List.getElem_cons_succ, List.getElem_cons_zero, List.setIfInBounds_toArray, List.set_cons_zero, List.set_cons_succ]
  refine wpAnyH_take (i := 4) (v := ?_) rfl (by kernel_rfl) (by kernel_rfl) (by kernel_rfl) (fun _ _ _ h => h) (Or.inl ⟨by kernel_rfl, ?_⟩) (by assumption) ?_
  rotate_left
  · (intro w hSw; (try dsimp only at hSw); go_simp); (try with_reducible rfl)
  try simp only [Act.put, List.getElem_toArray, List.getElem_cons_succ, List.getElem_cons_zero, List.setIfInBounds_toArray, List.set_cons_zero, List.set_cons_succ]
  refine wpAnyH_take (i := 5) (v := ?_) rfl (by kernel_rfl) (by kernel_rfl) (by kernel_rfl) (fun _ _ _ h => h) (Or.inl ⟨by kernel_rfl, ?_⟩) (by assumption) ?_
  rotate_left
  · (intro w hSw; (try dsimp only at hSw); go_simp); (try with_reducible rfl)
  try simp only [Act.put, List.getElem_toArray, List.getElem_cons_succ, List.getElem_cons_zero, List.setIfInBounds_toArray, List.set_cons_zero, List.set_cons_succ]
  refine wpAnyH_take (i := 6) (v := ?_) rfl (by kernel_rfl) (by kernel_rfl) (by kernel_rfl) (fun _ _ _ h => h) (Or.inl ⟨by kernel_rfl, ?_⟩) (by assumption) ?_
  rotate_left
  · (intro w hSw; (try dsimp only at hSw); go_simp); (try with_reducible rfl)
  try simp only [Act.put, List.getElem_toArray, List.getElem_cons_succ, List.getElem_cons_zero, List.setIfInBounds_toArray, List.set_cons_zero, List.set_cons_succ]
  refine wpAnyH_take (i := 7) (v := ?_) rfl (by kernel_rfl) (by kernel_rfl) (by kernel_rfl) (fun _ _ _ h => h) (Or.inl ⟨by kernel_rfl, ?_⟩) (by assumption) ?_
  rotate_left
  · (intro w hSw; (try dsimp only at hSw); go_simp); (try with_reducible rfl)
  try simp only [Act.put, List.getElem_toArray, List.getElem_cons_succ, List.getElem_cons_zero, List.setIfInBounds_toArray, List.set_cons_zero, List.set_cons_succ]
  refine wpAnyH_take (i := 8) (v := ?_) rfl (by kernel_rfl) (by kernel_rfl) (by kernel_rfl) (fun _ _ _ h => h) (Or.inl ⟨by kernel_rfl, ?_⟩) (by assumption) ?_
  rotate_left
  · (intro w hSw; (try dsimp only at hSw); go_simp); (try with_reducible rfl)
  try simp only [Act.put, List.getElem_toArray, List.getElem_cons_succ, List.getElem_cons_zero, List.setIfInBounds_toArray, List.set_cons_zero, List.set_cons_succ]
  refine wpAnyH_ready (rs := [2]) (by kernel_rfl) (by simp) ?_
  refine AllReadyH.cons rfl (fun K hK => ?_) ?_
  rotate_left
  · exact AllReadyH.nil
  go_simp
  refine (IH.out _).mono ?_
  rintro e w1 ⟨rfl, hB⟩
  have hB1 : Below w.heap.size w w1 := (Below.refl _ w).drew.trans hB
  refine hK.out _ _ ?_ (fun hHeld => ?_)
  · (try dsimp only); exact hB1
  clear hK K
  try simp only [Act.put, List.getElem_toArray, List.getElem_cons_succ, List.getElem_cons_zero, List.setIfInBounds_toArray, List.set_cons_zero, List.set_cons_succ]
  refine wpAnyH_take (i := 9) (v := ?_) rfl (by kernel_rfl) (by kernel_rfl) (by kernel_rfl) (fun _ _ _ h => h) (Or.inl ⟨by kernel_rfl, ?_⟩) (by assumption) ?_
  rotate_left
  · (intro w hSw; (try dsimp only at hSw); go_simp); (try with_reducible rfl)
  try simp only [Act.put, List.getElem_toArray, List.getElem_cons_succ, List.getElem_cons_zero, List.setIfInBounds_toArray, List.set_cons_zero, List.set_cons_succ]
  refine wpAnyH_take (i := 10) (v := ?_) rfl (by kernel_rfl) (by kernel_rfl) (by kernel_rfl) (fun _ _ _ h => h) (Or.inl ⟨by kernel_rfl, ?_⟩) (by assumption) ?_
  rotate_left
  · (intro w hSw; (try dsimp only at hSw); go_simp); (try with_reducible rfl)
  try simp only [Act.put, List.getElem_toArray, List.getElem_cons_succ, List.getElem_cons_zero, List.setIfInBounds_toArray, List.set_cons_zero, List.set_cons_succ]
  refine wpAnyH_done (by kernel_rfl) ?_ _
  refine NoPanic.normal ?_
  go_wp2
  go_ret
  refine ⟨?_, hB1⟩
  rw [HD.out]
  have := ba_app (decDigits q) [c]
  simpa using this

theorem natural_c : ∀ (n : Nat), n < 1000000000000 → ∀ w, Calls Tryz.prog 41 #[.int .u64 (n : Int)] w fun e w' => e = .returned (.string ⟨(decDigits n).toArray⟩) ∧ Below w.heap.size w w' := by
  intro n
  induction n using Nat.strongRecOn with
  | _ n ih =>
    intro hn w
    by_cases h : n < 10
    · exact natural_1 n h w
    · exact natural_2 n (by omega) hn (ih (n / 10) (by omega) (by omega)) w

set_option maxRecDepth 100000 in
set_option maxHeartbeats 8000000 in
theorem digits_c (n : Int) (h0 : 0 ≤ n) (h1 : n ≤ 99999999999) (w : World) :
    Calls Tryz.prog 27 #[.int .i64 n] w fun e w' => e = .returned (.string ⟨(itoa n).toArray⟩) ∧ Below w.heap.size w w' := by
  obtain ⟨k, rfl⟩ : ∃ k : Nat, n = k := ⟨n.toNat, by omega⟩
  have HN := Lib.hid (natural_c k (by omega))
  have hk : ((k : Int) < 0) = False := by simp
  have hw : IntKind.u64.wrap (k : Int) = (k : Int) := by simp [IntKind.wrap, IntKind.signed, IntKind.bits]; omega
  rw [itoa_nat]
  go_enter Tryz.func27, Tryz.ntmps27
  go_wp2_with fail
  refine (HN.out _).mono ?_
  rintro e w1 ⟨rfl, hB⟩
  go_wp2
  go_ret
  exact ⟨rfl, hB⟩

set_option maxRecDepth 100000 in
set_option maxHeartbeats 8000000 in
theorem rnumber_c (n : Int) (w : World) : Calls Tryz.prog 34 #[.int .i64 n] w fun e w' => e = .returned (.bool (upB n 999999999)) ∧ w' = w := by
  unfold upB
  by_cases h1 : 0 ≤ n
  · have t1 : decide (0 ≤ n) = true := by simp [h1]
    go_enter Tryz.func34, Tryz.ntmps34
    go_wp2
    go_ret
    exact ⟨by simp [h1], rfl⟩
  · have t1 : decide (0 ≤ n) = false := by simp; omega
    go_enter Tryz.func34, Tryz.ntmps34
    go_wp2
    go_ret
    exact ⟨by simp [h1], rfl⟩

set_option maxRecDepth 100000 in
set_option maxHeartbeats 8000000 in
theorem rone_c (a : Ad) (w : World) : Calls Tryz.prog 23 #[adv a] w fun e w' => e = .returned (.bool (isAd a)) ∧ Below w.heap.size w w' := by
  obtain ⟨k, n, m⟩ := a
  have HX := Lib.hid (fun w => rnumber_c n w)
  have HY := Lib.hid (fun w => rnumber_c m w)
  have HB := Lib.hid ((Below.refl _ w).alloc (Nat.le_refl _) (.cells #[.int .i64 k, .int .i64 n, .int .i64 m] 31))
  unfold adv
  by_cases k0 : k = 0 ∨ k = 2
  · have e : isAd ⟨k, n, m⟩ = decide (n = 0 ∧ m = 0) := by unfold isAd; rw [if_pos k0]
    rw [e]
    have hn : (n == 0) = true ∧ n = 0 ∨ (n == 0) = false ∧ ¬ n = 0 := by by_cases h : n = 0 <;> simp [h]
    rcases k0 with rfl | rfl
    all_goals rcases hn with ⟨h1, h2⟩ | ⟨h1, h2⟩
    all_goals
      have H2 := Lib.hid h2
      clear h2
      go_enter Tryz.func23, Tryz.ntmps23
      go_wp2
      go_ret
      refine ⟨?_, HB.out⟩
      simp [H2.out]
      try rfl
  · have t0 : (k == 0) = false := by rw [beq_eq_false_iff_ne]; omega
    have t2 : (k == 2) = false := by rw [beq_eq_false_iff_ne]; omega
    by_cases k1 : k = 1 ∨ k = 5 ∨ k = 6
    · have e : isAd ⟨k, n, m⟩ = (upB n 999999999 && (m == 0)) := by
        unfold isAd; rw [if_neg k0, if_pos k1, Bool.eq_iff_iff]; simp [upB]; omega
      rw [e]
      clear k0 t0 t2 e
      generalize upB n 999999999 = X at HX ⊢
      have hk : (k = 1) ∨ (k = 5) ∨ (k = 6) := k1
      clear k1
      rcases hk with rfl | rfl | rfl
      all_goals cases X
      all_goals
        go_enter Tryz.func23, Tryz.ntmps23
        go_wp2_with fail
        refine (HX.out _).mono ?_
        rintro e w1 ⟨rfl, rfl⟩
        go_wp2
        go_ret
        exact ⟨rfl, HB.out⟩
    · have t1 : (k == 1) = false := by rw [beq_eq_false_iff_ne]; omega
      have t5 : (k == 5) = false := by rw [beq_eq_false_iff_ne]; omega
      have t6 : (k == 6) = false := by rw [beq_eq_false_iff_ne]; omega
      by_cases k3 : k = 3
      · subst k3
        have e : isAd ⟨3, n, m⟩ = (upB n 999999999 && upB m 999999999) := by
          rw [Bool.eq_iff_iff]; simp [isAd, upB]; omega
        rw [e]
        clear k0 k1 t0 t1 t2 t5 t6 e
        generalize upB n 999999999 = X at HX ⊢
        generalize upB m 999999999 = Y at HY ⊢
        cases X
        · go_enter Tryz.func23, Tryz.ntmps23
          go_wp2_with fail
          refine (HX.out _).mono ?_
          rintro e w1 ⟨rfl, rfl⟩
          go_wp2
          go_ret
          exact ⟨rfl, HB.out⟩
        · go_enter Tryz.func23, Tryz.ntmps23
          go_wp2_with fail
          refine (HX.out _).mono ?_
          rintro e w1 ⟨rfl, rfl⟩
          go_wp2_with fail
          refine (HY.out _).mono ?_
          rintro e w1 ⟨rfl, rfl⟩
          go_wp2
          go_ret
          exact ⟨rfl, HB.out⟩
      · have t3 : (k == 3) = false := by rw [beq_eq_false_iff_ne]; exact k3
        by_cases k4 : k = 4
        · subst k4
          have e : isAd ⟨4, n, m⟩ = ((decide (0 ≤ n) && decide (n ≤ 999)) && (m == 0)) := by
            rw [Bool.eq_iff_iff]; simp [isAd]; omega
          rw [e]
          clear k0 k1 k3 t0 t1 t2 t3 t5 t6 e
          by_cases h1 : 0 ≤ n
          · have r1 : decide (0 ≤ n) = true := by simp [h1]
            by_cases h2 : n ≤ 999
            · have r2 : decide (n ≤ 999) = true := by simp [h2]
              go_enter Tryz.func23, Tryz.ntmps23
              go_wp2
              go_ret
              exact ⟨by simp [h1, h2], HB.out⟩
            · have r2 : decide (n ≤ 999) = false := by simp; omega
              go_enter Tryz.func23, Tryz.ntmps23
              go_wp2
              go_ret
              exact ⟨by simp [h1, h2], HB.out⟩
          · have r1 : decide (0 ≤ n) = false := by simp; omega
            go_enter Tryz.func23, Tryz.ntmps23
            go_wp2
            go_ret
            exact ⟨by simp [h1], HB.out⟩
        · have t4 : (k == 4) = false := by rw [beq_eq_false_iff_ne]; exact k4
          have e : isAd ⟨k, n, m⟩ = false := by unfold isAd; rw [if_neg k0, if_neg k1, if_neg k3, if_neg k4]
          rw [e]
          go_enter Tryz.func23, Tryz.ntmps23
          go_wp2
          go_ret
          exact ⟨rfl, HB.out⟩

end Go.Proofs.YtaamhjjdhebjfaaGreatDoor
