/- The reference's Hits; AddrHits: the walk. -/
import Derived.Test.YtaamhjjdhebjfaaDoorAdO
namespace Go.Proofs.YtaamhjjdhebjfaaDoor
open Go.RowKit Go.Lib
set_option linter.unusedVariables false
set_option linter.unusedSimpArgs false

set_option maxRecDepth 100000 in
set_option maxHeartbeats 8000000 in
theorem its_c (a : Ad) (w : World) : Calls Tryd.prog 14 #[adv a] w fun e w' => e = .returned (adv a) ∧ Below w.heap.size w w' := by
  obtain ⟨k, n, m⟩ := a
  unfold adv
  go_enter Tryd.func14, Tryd.ntmps14
  go_wp2
  refine bodyPost_ret (v := .agg #[.int .i64 k, .int .i64 n, .int .i64 m]) (by simp [results, Tryd.results14, go_sem]) rfl ⟨rfl, Below.al2 w _ _⟩
set_option maxRecDepth 100000 in
set_option maxHeartbeats 8000000 in
theorem line_c (N : Int) (L : Bool) (p : Option Addr) (ln cap : Nat) (w : World) : Calls Tryd.prog 15 #[lnv N L (.slice p ln cap)] w fun e w' => e = .returned (lnv N L (.slice p ln cap)) ∧ Below w.heap.size w w' := by
  unfold lnv
  go_enter Tryd.func15, Tryd.ntmps15
  go_wp2
  refine bodyPost_ret (v := .agg #[.int .i64 N, .bool L, .slice p ln cap]) (by simp [results, Tryd.results15, go_sem]) rfl ⟨rfl, Below.al2 w _ _⟩

set_option maxRecDepth 100000 in
set_option maxHeartbeats 8000000 in
theorem rhits_c (a : Ad) (N : Int) (L : Bool) (p : Option Addr) (ln cap : Nat) (H : List Bool) (hk : a.k = 3 → 0 ≤ a.n ∧ a.n ≤ 999999999 ∧ 0 ≤ a.m ∧ a.m ≤ 999999999) (hN0 : 0 ≤ N) (hN : N ≤ 999999999) (w : World) (hH : Bls w p ln cap H) :
    Calls Tryd.prog 13 #[adv a, lnv N L (.slice p ln cap)] w fun e w' => e = .returned (.bool (hitA a N L H)) ∧ Below w.heap.size w w' := by
  obtain ⟨k, n, m⟩ := a
  unfold adv lnv
  simp only at hk
  have HB := Lib.hid (Below.al2 w)
  by_cases h0 : k = 0
  · subst h0
    go_enter Tryd.func13, Tryd.ntmps13
    go_wp2
    go_ret
    exact ⟨rfl, HB.out _ _⟩
  · have t0 : (k == 0) = false := by simpa using h0
    by_cases h1 : k = 1
    · subst h1
      rw [show hitA ⟨1, n, m⟩ N L H = decide (N = n) from rfl]
      go_enter Tryd.func13, Tryd.ntmps13
      go_wp2
      go_ret
      exact ⟨rfl, HB.out _ _⟩
    · have t1 : (k == 1) = false := by simpa using h1
      by_cases h2 : k = 2
      · subst h2
        rw [show hitA ⟨2, n, m⟩ N L H = L from rfl]
        go_enter Tryd.func13, Tryd.ntmps13
        go_wp2
        go_ret
        exact ⟨rfl, HB.out _ _⟩
      · have t2 : (k == 2) = false := by simpa using h2
        by_cases h3 : k = 3
        · subst h3
          obtain ⟨n0, n9, m0, m9⟩ := hk rfl
          have e : hitA ⟨3, n, m⟩ N L H = if m ≤ 0 then decide (N = n) else decide (n ≤ N ∧ (N - n) % m = 0) := rfl
          rw [e]
          clear hk t0 t1 t2 h0 h1 h2 e
          by_cases hm : m = 0
          · subst hm
            rw [if_pos (by omega)]
            go_enter Tryd.func13, Tryd.ntmps13
            go_wp2
            go_ret
            exact ⟨rfl, HB.out _ _⟩
          · rw [if_neg (by omega)]
            have tm : (m == 0) = false := by simpa using hm
            by_cases hn : N ≤ n
            · have e2 : decide (n ≤ N ∧ (N - n) % m = 0) = decide (N = n) := by
                rw [Bool.eq_iff_iff]; simp only [decide_eq_true_eq]
                constructor
                · rintro ⟨h, _⟩; omega
                · rintro rfl; simp
              rw [e2]
              have tn : decide (N ≤ n) = true := by simp [hn]
              go_enter Tryd.func13, Tryd.ntmps13
              go_wp2
              go_ret
              exact ⟨rfl, HB.out _ _⟩
            · have tn : ¬ N ≤ n := hn
              have tn' : decide (N ≤ n) = false := by simp; omega
              have tp : 0 < m := by omega
              have tp' : decide (0 < m) = true := by simp; omega
              have w1 : IntKind.i64.wrap (N - n) = N - n := by simp [IntKind.wrap, IntKind.signed, IntKind.bits]; omega
              have hx0 := Int.emod_nonneg (N - n) (show m ≠ 0 by omega)
              have hx1 := Int.emod_lt_of_pos (N - n) tp
              have e3 : (N - n).tmod m = (N - n) % m := Int.tmod_eq_emod_of_nonneg (by omega)
              obtain ⟨x, hx⟩ : ∃ x, x = (N - n) % m := ⟨_, rfl⟩
              have e2 : decide (n ≤ N ∧ (N - n) % m = 0) = (x == 0) := by
                rw [← hx, Bool.eq_iff_iff]; simp; omega
              rw [e2]
              rw [← hx] at e3 hx0 hx1
              have e4 := hx.symm
              have w2 : IntKind.i64.wrap x = x := by simp [IntKind.wrap, IntKind.signed, IntKind.bits]; omega
              clear hx e2
              have mz : ¬ m = 0 := hm
              go_enter Tryd.func13, Tryd.ntmps13
              go_wp2
              go_ret
              exact ⟨rfl, HB.out _ _⟩
        · have t3 : (k == 3) = false := by simpa using h3
          by_cases h4 : k = 4
          · subst h4
            rw [show hitA ⟨4, n, m⟩ N L H = hasAt H n from rfl]
            clear hk t0 t1 t2 t3 h0 h1 h2 h3
            have hcm := hH.capm
            have hle := hH.le
            have hlen := hH.len
            unfold maxLen at hcm
            by_cases h1 : 0 ≤ n
            · have t1 : decide (0 ≤ n) = true := by simp [h1]
              by_cases h2 : n < ln
              · obtain ⟨b, o, rfl⟩ := hH.ptr (by omega)
                obtain ⟨j, rfl⟩ : ∃ j : Nat, n = j := ⟨n.toNat, by omega⟩
                obtain ⟨x, hx⟩ : ∃ x, H[j]? = some x := ⟨H[j]'(by omega), List.getElem?_eq_getElem (by omega)⟩
                have hc := hH.cell b o rfl j x hx
                have hlt := hH.lt (by omega) b o rfl
                rw [hasAt_in hx]
                have t2 : decide ((j : Int) < (ln : Int)) = true := by simp; omega
                have t3 : (j : Int) < (ln : Int) := h2
                clear hH hx h2 hlen
                go_enter Tryd.func13, Tryd.ntmps13
                go_wp2
                go_ret
                exact ⟨rfl, HB.out _ _⟩
              · have t2 : decide (n < ln) = false := by simp; omega
                rw [hasAt_out (by omega)]
                go_enter Tryd.func13, Tryd.ntmps13
                go_wp2
                go_ret
                exact ⟨rfl, HB.out _ _⟩
            · have t1 : decide (0 ≤ n) = false := by simp; omega
              rw [hasAt_out (by omega)]
              go_enter Tryd.func13, Tryd.ntmps13
              go_wp2
              go_ret
              exact ⟨rfl, HB.out _ _⟩
          · have t4 : (k == 4) = false := by simpa using h4
            have e : hitA ⟨k, n, m⟩ N L H = false := by
              rw [hit_of, if_neg h0, if_neg h1, if_neg h2, if_neg h3, if_neg h4]
            rw [e]
            go_enter Tryd.func13, Tryd.ntmps13
            go_wp2
            go_ret
            exact ⟨rfl, HB.out _ _⟩

set_option maxRecDepth 100000 in
set_option maxHeartbeats 8000000 in
theorem hitsW (a : Ad) (N : Int) (L : Bool) (p : Option Addr) (ln cap : Nat) (H : List Bool) (w : World) (hH : Bls w p ln cap H) (hfit : Fit6 w) :
    Calls Tryd.prog 3 #[adv a, lnv N L (.slice p ln cap)] w fun e w' => e = .returned (.bool true) ∧ Below w.heap.size w w' := by
  have HS := Lib.hid (fun w h => shown_c w h)
  obtain ⟨k, n, m⟩ := a
  unfold adv lnv
  have HB := Lib.hid (Below.al2 w (.cells #[.int .i64 k, .int .i64 n, .int .i64 m] 23) (.cells #[.int .i64 N, .bool L, .slice p ln cap] 26))
  have HF := Lib.hid (hfit.below HB.out)
  have HL := Lib.hid (hH.below HB.out (Nat.le_refl _))
  clear hfit hH
  by_cases c1 : 100 < ln
  · have t1 : (100 : Int) < (ln : Int) := by omega
    go_enter Tryd.func3, Tryd.ntmps3
    go_wp2_with fail
    refine (HS.out _ HF.out).mono ?_
    rintro e w2 ⟨rfl, hB⟩
    have HB2 := Lib.hid (HB.out.trans (hB.mono HB.out.size))
    clear hB
    go_wp2
    go_ret
    exact ⟨rfl, HB2.out⟩
  · have t1 : ¬ (100 : Int) < (ln : Int) := by omega
    by_cases c2 : N < 0
    · have t2 : decide (N < 0) = true := by simp [c2]
      go_enter Tryd.func3, Tryd.ntmps3
      go_wp2_with fail
      refine (HS.out _ HF.out).mono ?_
      rintro e w2 ⟨rfl, hB⟩
      have HB2 := Lib.hid (HB.out.trans (hB.mono HB.out.size))
      clear hB
      go_wp2
      go_ret
      exact ⟨rfl, HB2.out⟩
    · have t2 : decide (N < 0) = false := by simp; omega
      by_cases c3 : 999999999 < N
      · have t3 : decide (999999999 < N) = true := by simp [c3]
        go_enter Tryd.func3, Tryd.ntmps3
        go_wp2_with fail
        refine (HS.out _ HF.out).mono ?_
        rintro e w2 ⟨rfl, hB⟩
        have HB2 := Lib.hid (HB.out.trans (hB.mono HB.out.size))
        clear hB
        go_wp2
        go_ret
        exact ⟨rfl, HB2.out⟩
      · have t3 : decide (999999999 < N) = false := by simp; omega
        have M0 := fun w => may_c ⟨⟨k, n, m⟩, ⟨0, 0, 0⟩, false⟩ w
        have hm3 : mayR ⟨⟨k, n, m⟩, ⟨0, 0, 0⟩, false⟩ = true → isAd ⟨k, n, m⟩ = true := fun h => (mayR_iff.1 h).1
        obtain ⟨M, hM⟩ : ∃ M, mayR ⟨⟨k, n, m⟩, ⟨0, 0, 0⟩, false⟩ = M := ⟨_, rfl⟩
        rw [hM] at M0 hm3
        unfold rgv at M0
        simp only at M0
        have HM := Lib.hid M0
        clear M0 hM
        by_cases c4 : M = false ∧ k ≠ 5 ∧ k ≠ 6
        · obtain ⟨rfl, c5, c6⟩ := c4
          have t5 : (k == 5) = false := by simpa using c5
          have t6 : (k == 6) = false := by simpa using c6
          have c5' : ¬ k = 5 := c5
          have c6' : ¬ k = 6 := c6
          clear hm3 c5 c6
          go_enter Tryd.func3, Tryd.ntmps3
          go_wp2_with fail
          refine (HM.out _).mono ?_
          rintro e w1 ⟨rfl, hB⟩
          have HF1 := Lib.hid (HF.out.below hB)
          have HB1 := Lib.hid (HB.out.trans (hB.mono HB.out.size))
          have x0 := cell_keep hB (show World.cell? _ ⟨w.heap.size, 0, none⟩ = some (.int .i64 k) by simp [go_sem])
          have x1 := cell_keep hB (show World.cell? _ ⟨w.heap.size, 1, none⟩ = some (.int .i64 n) by simp [go_sem])
          have x2 := cell_keep hB (show World.cell? _ ⟨w.heap.size, 2, none⟩ = some (.int .i64 m) by simp [go_sem])
          have x3 := cell_keep hB (show World.cell? _ ⟨(w.heap.size + 1), 0, none⟩ = some (.int .i64 N) by simp [go_sem])
          have x4 := cell_keep hB (show World.cell? _ ⟨(w.heap.size + 1), 1, none⟩ = some (.bool L) by simp [go_sem])
          have x5 := cell_keep hB (show World.cell? _ ⟨(w.heap.size + 1), 2, none⟩ = some (.slice p ln cap) by simp [go_sem])
          clear hB
          go_wp2_with fail
          refine (HS.out _ HF1.out).mono ?_
          rintro e w2 ⟨rfl, hB⟩
          have HB2 := Lib.hid (HB1.out.trans (hB.mono HB1.out.size))
          clear hB
          go_wp2
          go_ret
          exact ⟨rfl, HB2.out⟩
        · have hk3 : k = 3 → 0 ≤ n ∧ n ≤ 999999999 ∧ 0 ≤ m ∧ m ≤ 999999999 := by
            rintro rfl
            have : M = true := by cases M <;> simp_all
            obtain ⟨k0, k6, n0, n9, m0, m9⟩ := isAd.nums (hm3 this)
            exact ⟨n0, n9, m0, m9⟩
          have P1 := fun w h => hits_c ⟨k, n, m⟩ N L p ln cap H (fun q => ⟨(hk3 q).1, (hk3 q).2.1, (hk3 q).2.2.2⟩) (by omega) (by omega) w h
          have P2 := fun w h => rhits_c ⟨k, n, m⟩ N L p ln cap H hk3 (by omega) (by omega) w h
          have P3 := fun w => its_c ⟨k, n, m⟩ w
          have P4 := fun w => line_c N L p ln cap w
          generalize hitA ⟨k, n, m⟩ N L H = X at P1 P2
          unfold adv lnv at P1 P2
          unfold adv at P3
          unfold lnv at P4
          have H1 := Lib.hid P1
          have H2 := Lib.hid P2
          have H3 := Lib.hid P3
          have H4 := Lib.hid P4
          have HT : M = true ∨ (M = false ∧ k = 5) ∨ (M = false ∧ k = 6 ∧ (k == 5) = false) := by
            cases M
            · by_cases c5 : k = 5
              · exact Or.inr (Or.inl ⟨rfl, c5⟩)
              · by_cases c6 : k = 6
                · exact Or.inr (Or.inr ⟨rfl, c6, by simpa using c5⟩)
                · exact absurd ⟨rfl, c5, c6⟩ c4
            · exact Or.inl rfl
          clear P1 P2 P3 P4 hk3 hm3 c4
          rcases HT with rfl | ⟨rfl, rfl⟩ | ⟨rfl, rfl, _⟩
          · clear c1 c2 c3
            go_enter Tryd.func3, Tryd.ntmps3
            go_wp2_with fail
            refine (HM.out _).mono ?_
            rintro e w1 ⟨rfl, hB⟩
            have HF1 := Lib.hid (HF.out.below hB)
            have HB1 := Lib.hid (HB.out.trans (hB.mono HB.out.size))
            have HL1 := Lib.hid (HL.out.below hB (Nat.le_refl _))
            have x0 := cell_keep hB (show World.cell? _ ⟨w.heap.size, 0, none⟩ = some (.int .i64 k) by simp [go_sem])
            have x1 := cell_keep hB (show World.cell? _ ⟨w.heap.size, 1, none⟩ = some (.int .i64 n) by simp [go_sem])
            have x2 := cell_keep hB (show World.cell? _ ⟨w.heap.size, 2, none⟩ = some (.int .i64 m) by simp [go_sem])
            have x3 := cell_keep hB (show World.cell? _ ⟨(w.heap.size + 1), 0, none⟩ = some (.int .i64 N) by simp [go_sem])
            have x4 := cell_keep hB (show World.cell? _ ⟨(w.heap.size + 1), 1, none⟩ = some (.bool L) by simp [go_sem])
            have x5 := cell_keep hB (show World.cell? _ ⟨(w.heap.size + 1), 2, none⟩ = some (.slice p ln cap) by simp [go_sem])
            clear hB
            go_wp2_with fail
            refine (HS.out _ HF1.out).mono ?_
            rintro e w2 ⟨rfl, hB⟩
            have HB2 := Lib.hid (HB1.out.trans (hB.mono HB1.out.size))
            have HL2 := Lib.hid (HL1.out.below hB (Nat.le_refl _))
            replace x0 := cell_keep hB x0
            replace x1 := cell_keep hB x1
            replace x2 := cell_keep hB x2
            replace x3 := cell_keep hB x3
            replace x4 := cell_keep hB x4
            replace x5 := cell_keep hB x5
            clear hB
            go_wp2_with fail
            refine wp_region_noPanic ?_
            refine wp_region_held_drew (S := fun w' => (w'.cell? ⟨w.heap.size, 0, none⟩ = some (.int .i64 k) ∧ w'.cell? ⟨w.heap.size, 1, none⟩ = some (.int .i64 n) ∧ w'.cell? ⟨w.heap.size, 2, none⟩ = some (.int .i64 m) ∧ w'.cell? ⟨(w.heap.size + 1), 0, none⟩ = some (.int .i64 N) ∧ w'.cell? ⟨(w.heap.size + 1), 1, none⟩ = some (.bool L) ∧ w'.cell? ⟨(w.heap.size + 1), 2, none⟩ = some (.slice p ln cap)) ∧ Bls w' p ln cap H ∧ Below w.heap.size w w') (by kernel_rfl) ?_ (fun hHeld => ?_)
            · (try dsimp only); exact ⟨⟨x0, x1, x2, x3, x4, x5⟩, HL2.out.below (Below.refl _ _).drew (Nat.le_refl _), HB2.out.drew⟩
            refine wpAnyH_take (i := 0) (v := ?_) rfl (by kernel_rfl) (by kernel_rfl) (by kernel_rfl) (fun _ _ _ h => h) (Or.inl ⟨by kernel_rfl, ?_⟩) (by assumption) ?_
            rotate_left
            · (intro w hSw; (try dsimp only at hSw); (try obtain ⟨⟨c0, c1, c2, c3, c4, c5⟩, hL, hB⟩ := hSw); go_simp); (try with_reducible rfl)
            try simp only [Act.put, List.getElem_toArray, List.getElem_cons_succ, List.getElem_cons_zero, List.setIfInBounds_toArray, List.set_cons_zero, List.set_cons_succ]
            refine wpAnyH_take (i := 1) (v := ?_) rfl (by kernel_rfl) (by kernel_rfl) (by kernel_rfl) (fun _ _ _ h => h) (Or.inl ⟨by kernel_rfl, ?_⟩) (by assumption) ?_
            rotate_left
            · (intro w hSw; (try dsimp only at hSw); (try obtain ⟨⟨c0, c1, c2, c3, c4, c5⟩, hL, hB⟩ := hSw); go_simp); (try with_reducible rfl)
            try simp only [Act.put, List.getElem_toArray, List.getElem_cons_succ, List.getElem_cons_zero, List.setIfInBounds_toArray, List.set_cons_zero, List.set_cons_succ]
            refine wpAnyH_take (i := 3) (v := ?_) rfl (by kernel_rfl) (by kernel_rfl) (by kernel_rfl) (fun _ _ _ h => h) (Or.inl ⟨by kernel_rfl, ?_⟩) (by assumption) ?_
            rotate_left
            · (intro w hSw; (try dsimp only at hSw); (try obtain ⟨⟨c0, c1, c2, c3, c4, c5⟩, hL, hB⟩ := hSw); go_simp); (try with_reducible rfl)
            try simp only [Act.put, List.getElem_toArray, List.getElem_cons_succ, List.getElem_cons_zero, List.setIfInBounds_toArray, List.set_cons_zero, List.set_cons_succ]
            refine wpAnyH_take (i := 5) (v := ?_) rfl (by kernel_rfl) (by kernel_rfl) (by kernel_rfl) (fun _ _ _ h => h) (Or.inl ⟨by kernel_rfl, ?_⟩) (by assumption) ?_
            rotate_left
            · (intro w hSw; (try dsimp only at hSw); (try obtain ⟨⟨c0, c1, c2, c3, c4, c5⟩, hL, hB⟩ := hSw); go_simp); (try with_reducible rfl)
            try simp only [Act.put, List.getElem_toArray, List.getElem_cons_succ, List.getElem_cons_zero, List.setIfInBounds_toArray, List.set_cons_zero, List.set_cons_succ]
            refine wpAnyH_ready (rs := [2]) (by kernel_rfl) (by simp) ?_
            refine AllReadyH.cons rfl (fun K hK => ?_) ?_
            rotate_left
            · exact AllReadyH.nil
            go_simp
            have hHn := hHeld
            obtain ⟨⟨c0, c1, c2, c3, c4, c5⟩, hL, hB⟩ := hHn
            refine (H1.out _ hL).mono ?_
            rintro e wN ⟨rfl, hBN⟩
            clear c0 c1 c2 c3 c4 c5 hL hB
            refine hK.out _ _ ?_ (fun hHeld => ?_)
            · (try dsimp only); obtain ⟨⟨c0, c1, c2, c3, c4, c5⟩, hL, hB⟩ := hHeld; exact ⟨⟨cell_keep hBN c0, cell_keep hBN c1, cell_keep hBN c2, cell_keep hBN c3, cell_keep hBN c4, cell_keep hBN c5⟩, hL.below hBN (Nat.le_refl _), hB.trans (hBN.mono hB.size)⟩
            clear hK K
            try simp only [Act.put, List.getElem_toArray, List.getElem_cons_succ, List.getElem_cons_zero, List.setIfInBounds_toArray, List.set_cons_zero, List.set_cons_succ]
            refine wpAnyH_ready (rs := [4]) (by kernel_rfl) (by simp) ?_
            refine AllReadyH.cons rfl (fun K hK => ?_) ?_
            rotate_left
            · exact AllReadyH.nil
            go_simp
            have hHn := hHeld
            obtain ⟨⟨c0, c1, c2, c3, c4, c5⟩, hL, hB⟩ := hHn
            refine (H3.out _).mono ?_
            rintro e wN ⟨rfl, hBN⟩
            clear c0 c1 c2 c3 c4 c5 hL hB
            refine hK.out _ _ ?_ (fun hHeld => ?_)
            · (try dsimp only); obtain ⟨⟨c0, c1, c2, c3, c4, c5⟩, hL, hB⟩ := hHeld; exact ⟨⟨cell_keep hBN c0, cell_keep hBN c1, cell_keep hBN c2, cell_keep hBN c3, cell_keep hBN c4, cell_keep hBN c5⟩, hL.below hBN (Nat.le_refl _), hB.trans (hBN.mono hB.size)⟩
            clear hK K
            try simp only [Act.put, List.getElem_toArray, List.getElem_cons_succ, List.getElem_cons_zero, List.setIfInBounds_toArray, List.set_cons_zero, List.set_cons_succ]
            refine wpAnyH_ready (rs := [6]) (by kernel_rfl) (by simp) ?_
            refine AllReadyH.cons rfl (fun K hK => ?_) ?_
            rotate_left
            · exact AllReadyH.nil
            go_simp
            have hHn := hHeld
            obtain ⟨⟨c0, c1, c2, c3, c4, c5⟩, hL, hB⟩ := hHn
            refine (H4.out _).mono ?_
            rintro e wN ⟨rfl, hBN⟩
            clear c0 c1 c2 c3 c4 c5 hL hB
            refine hK.out _ _ ?_ (fun hHeld => ?_)
            · (try dsimp only); obtain ⟨⟨c0, c1, c2, c3, c4, c5⟩, hL, hB⟩ := hHeld; exact ⟨⟨cell_keep hBN c0, cell_keep hBN c1, cell_keep hBN c2, cell_keep hBN c3, cell_keep hBN c4, cell_keep hBN c5⟩, hL.below hBN (Nat.le_refl _), hB.trans (hBN.mono hB.size)⟩
            clear hK K
            try simp only [Act.put, List.getElem_toArray, List.getElem_cons_succ, List.getElem_cons_zero, List.setIfInBounds_toArray, List.set_cons_zero, List.set_cons_succ]
            refine wpAnyH_ready (rs := [7]) (by kernel_rfl) (by simp) ?_
            refine AllReadyH.cons rfl (fun K hK => ?_) ?_
            rotate_left
            · exact AllReadyH.nil
            go_simp
            have hHn := hHeld
            obtain ⟨⟨c0, c1, c2, c3, c4, c5⟩, hL, hB⟩ := hHn
            refine (H2.out _ hL).mono ?_
            rintro e wN ⟨rfl, hBN⟩
            clear c0 c1 c2 c3 c4 c5 hL hB
            refine hK.out _ _ ?_ (fun hHeld => ?_)
            · (try dsimp only); obtain ⟨⟨c0, c1, c2, c3, c4, c5⟩, hL, hB⟩ := hHeld; exact ⟨⟨cell_keep hBN c0, cell_keep hBN c1, cell_keep hBN c2, cell_keep hBN c3, cell_keep hBN c4, cell_keep hBN c5⟩, hL.below hBN (Nat.le_refl _), hB.trans (hBN.mono hB.size)⟩
            clear hK K
            try simp only [Act.put, List.getElem_toArray, List.getElem_cons_succ, List.getElem_cons_zero, List.setIfInBounds_toArray, List.set_cons_zero, List.set_cons_succ]
            refine wpAnyH_take (i := 8) (v := ?_) rfl (by kernel_rfl) (by kernel_rfl) (by kernel_rfl) (fun _ _ _ h => h) (Or.inl ⟨by kernel_rfl, ?_⟩) (by assumption) ?_
            rotate_left
            · (intro w hSw; (try dsimp only at hSw); (try obtain ⟨⟨c0, c1, c2, c3, c4, c5⟩, hL, hB⟩ := hSw); go_simp); (try with_reducible rfl)
            try simp only [Act.put, List.getElem_toArray, List.getElem_cons_succ, List.getElem_cons_zero, List.setIfInBounds_toArray, List.set_cons_zero, List.set_cons_succ]
            refine wpAnyH_take (i := 9) (v := ?_) rfl (by kernel_rfl) (by kernel_rfl) (by kernel_rfl) (fun _ _ _ h => h) (Or.inl ⟨by kernel_rfl, ?_⟩) (by assumption) ?_
            rotate_left
            · (intro w hSw; (try dsimp only at hSw); (try obtain ⟨⟨c0, c1, c2, c3, c4, c5⟩, hL, hB⟩ := hSw); go_simp); (try with_reducible rfl)
            try simp only [Act.put, List.getElem_toArray, List.getElem_cons_succ, List.getElem_cons_zero, List.setIfInBounds_toArray, List.set_cons_zero, List.set_cons_succ]
            refine wpAnyH_done (by kernel_rfl) ?_ _
            refine NoPanic.normal ?_
            go_wp2
            go_ret
            exact ⟨by simp, hHeld.2.2⟩
          · clear c1 c2 c3
            go_enter Tryd.func3, Tryd.ntmps3
            go_wp2_with fail
            refine (HM.out _).mono ?_
            rintro e w1 ⟨rfl, hB⟩
            have HF1 := Lib.hid (HF.out.below hB)
            have HB1 := Lib.hid (HB.out.trans (hB.mono HB.out.size))
            have HL1 := Lib.hid (HL.out.below hB (Nat.le_refl _))
            have x0 := cell_keep hB (show World.cell? _ ⟨w.heap.size, 0, none⟩ = some (.int .i64 5) by simp [go_sem])
            have x1 := cell_keep hB (show World.cell? _ ⟨w.heap.size, 1, none⟩ = some (.int .i64 n) by simp [go_sem])
            have x2 := cell_keep hB (show World.cell? _ ⟨w.heap.size, 2, none⟩ = some (.int .i64 m) by simp [go_sem])
            have x3 := cell_keep hB (show World.cell? _ ⟨(w.heap.size + 1), 0, none⟩ = some (.int .i64 N) by simp [go_sem])
            have x4 := cell_keep hB (show World.cell? _ ⟨(w.heap.size + 1), 1, none⟩ = some (.bool L) by simp [go_sem])
            have x5 := cell_keep hB (show World.cell? _ ⟨(w.heap.size + 1), 2, none⟩ = some (.slice p ln cap) by simp [go_sem])
            clear hB
            go_wp2_with fail
            refine (HS.out _ HF1.out).mono ?_
            rintro e w2 ⟨rfl, hB⟩
            have HB2 := Lib.hid (HB1.out.trans (hB.mono HB1.out.size))
            have HL2 := Lib.hid (HL1.out.below hB (Nat.le_refl _))
            replace x0 := cell_keep hB x0
            replace x1 := cell_keep hB x1
            replace x2 := cell_keep hB x2
            replace x3 := cell_keep hB x3
            replace x4 := cell_keep hB x4
            replace x5 := cell_keep hB x5
            clear hB
            go_wp2_with fail
            refine wp_region_noPanic ?_
            refine wp_region_held_drew (S := fun w' => (w'.cell? ⟨w.heap.size, 0, none⟩ = some (.int .i64 5) ∧ w'.cell? ⟨w.heap.size, 1, none⟩ = some (.int .i64 n) ∧ w'.cell? ⟨w.heap.size, 2, none⟩ = some (.int .i64 m) ∧ w'.cell? ⟨(w.heap.size + 1), 0, none⟩ = some (.int .i64 N) ∧ w'.cell? ⟨(w.heap.size + 1), 1, none⟩ = some (.bool L) ∧ w'.cell? ⟨(w.heap.size + 1), 2, none⟩ = some (.slice p ln cap)) ∧ Bls w' p ln cap H ∧ Below w.heap.size w w') (by kernel_rfl) ?_ (fun hHeld => ?_)
            · (try dsimp only); exact ⟨⟨x0, x1, x2, x3, x4, x5⟩, HL2.out.below (Below.refl _ _).drew (Nat.le_refl _), HB2.out.drew⟩
            refine wpAnyH_take (i := 0) (v := ?_) rfl (by kernel_rfl) (by kernel_rfl) (by kernel_rfl) (fun _ _ _ h => h) (Or.inl ⟨by kernel_rfl, ?_⟩) (by assumption) ?_
            rotate_left
            · (intro w hSw; (try dsimp only at hSw); (try obtain ⟨⟨c0, c1, c2, c3, c4, c5⟩, hL, hB⟩ := hSw); go_simp); (try with_reducible rfl)
            try simp only [Act.put, List.getElem_toArray, List.getElem_cons_succ, List.getElem_cons_zero, List.setIfInBounds_toArray, List.set_cons_zero, List.set_cons_succ]
            refine wpAnyH_take (i := 1) (v := ?_) rfl (by kernel_rfl) (by kernel_rfl) (by kernel_rfl) (fun _ _ _ h => h) (Or.inl ⟨by kernel_rfl, ?_⟩) (by assumption) ?_
            rotate_left
            · (intro w hSw; (try dsimp only at hSw); (try obtain ⟨⟨c0, c1, c2, c3, c4, c5⟩, hL, hB⟩ := hSw); go_simp); (try with_reducible rfl)
            try simp only [Act.put, List.getElem_toArray, List.getElem_cons_succ, List.getElem_cons_zero, List.setIfInBounds_toArray, List.set_cons_zero, List.set_cons_succ]
            refine wpAnyH_take (i := 3) (v := ?_) rfl (by kernel_rfl) (by kernel_rfl) (by kernel_rfl) (fun _ _ _ h => h) (Or.inl ⟨by kernel_rfl, ?_⟩) (by assumption) ?_
            rotate_left
            · (intro w hSw; (try dsimp only at hSw); (try obtain ⟨⟨c0, c1, c2, c3, c4, c5⟩, hL, hB⟩ := hSw); go_simp); (try with_reducible rfl)
            try simp only [Act.put, List.getElem_toArray, List.getElem_cons_succ, List.getElem_cons_zero, List.setIfInBounds_toArray, List.set_cons_zero, List.set_cons_succ]
            refine wpAnyH_take (i := 5) (v := ?_) rfl (by kernel_rfl) (by kernel_rfl) (by kernel_rfl) (fun _ _ _ h => h) (Or.inl ⟨by kernel_rfl, ?_⟩) (by assumption) ?_
            rotate_left
            · (intro w hSw; (try dsimp only at hSw); (try obtain ⟨⟨c0, c1, c2, c3, c4, c5⟩, hL, hB⟩ := hSw); go_simp); (try with_reducible rfl)
            try simp only [Act.put, List.getElem_toArray, List.getElem_cons_succ, List.getElem_cons_zero, List.setIfInBounds_toArray, List.set_cons_zero, List.set_cons_succ]
            refine wpAnyH_ready (rs := [2]) (by kernel_rfl) (by simp) ?_
            refine AllReadyH.cons rfl (fun K hK => ?_) ?_
            rotate_left
            · exact AllReadyH.nil
            go_simp
            have hHn := hHeld
            obtain ⟨⟨c0, c1, c2, c3, c4, c5⟩, hL, hB⟩ := hHn
            refine (H1.out _ hL).mono ?_
            rintro e wN ⟨rfl, hBN⟩
            clear c0 c1 c2 c3 c4 c5 hL hB
            refine hK.out _ _ ?_ (fun hHeld => ?_)
            · (try dsimp only); obtain ⟨⟨c0, c1, c2, c3, c4, c5⟩, hL, hB⟩ := hHeld; exact ⟨⟨cell_keep hBN c0, cell_keep hBN c1, cell_keep hBN c2, cell_keep hBN c3, cell_keep hBN c4, cell_keep hBN c5⟩, hL.below hBN (Nat.le_refl _), hB.trans (hBN.mono hB.size)⟩
            clear hK K
            try simp only [Act.put, List.getElem_toArray, List.getElem_cons_succ, List.getElem_cons_zero, List.setIfInBounds_toArray, List.set_cons_zero, List.set_cons_succ]
            refine wpAnyH_ready (rs := [4]) (by kernel_rfl) (by simp) ?_
            refine AllReadyH.cons rfl (fun K hK => ?_) ?_
            rotate_left
            · exact AllReadyH.nil
            go_simp
            have hHn := hHeld
            obtain ⟨⟨c0, c1, c2, c3, c4, c5⟩, hL, hB⟩ := hHn
            refine (H3.out _).mono ?_
            rintro e wN ⟨rfl, hBN⟩
            clear c0 c1 c2 c3 c4 c5 hL hB
            refine hK.out _ _ ?_ (fun hHeld => ?_)
            · (try dsimp only); obtain ⟨⟨c0, c1, c2, c3, c4, c5⟩, hL, hB⟩ := hHeld; exact ⟨⟨cell_keep hBN c0, cell_keep hBN c1, cell_keep hBN c2, cell_keep hBN c3, cell_keep hBN c4, cell_keep hBN c5⟩, hL.below hBN (Nat.le_refl _), hB.trans (hBN.mono hB.size)⟩
            clear hK K
            try simp only [Act.put, List.getElem_toArray, List.getElem_cons_succ, List.getElem_cons_zero, List.setIfInBounds_toArray, List.set_cons_zero, List.set_cons_succ]
            refine wpAnyH_ready (rs := [6]) (by kernel_rfl) (by simp) ?_
            refine AllReadyH.cons rfl (fun K hK => ?_) ?_
            rotate_left
            · exact AllReadyH.nil
            go_simp
            have hHn := hHeld
            obtain ⟨⟨c0, c1, c2, c3, c4, c5⟩, hL, hB⟩ := hHn
            refine (H4.out _).mono ?_
            rintro e wN ⟨rfl, hBN⟩
            clear c0 c1 c2 c3 c4 c5 hL hB
            refine hK.out _ _ ?_ (fun hHeld => ?_)
            · (try dsimp only); obtain ⟨⟨c0, c1, c2, c3, c4, c5⟩, hL, hB⟩ := hHeld; exact ⟨⟨cell_keep hBN c0, cell_keep hBN c1, cell_keep hBN c2, cell_keep hBN c3, cell_keep hBN c4, cell_keep hBN c5⟩, hL.below hBN (Nat.le_refl _), hB.trans (hBN.mono hB.size)⟩
            clear hK K
            try simp only [Act.put, List.getElem_toArray, List.getElem_cons_succ, List.getElem_cons_zero, List.setIfInBounds_toArray, List.set_cons_zero, List.set_cons_succ]
            refine wpAnyH_ready (rs := [7]) (by kernel_rfl) (by simp) ?_
            refine AllReadyH.cons rfl (fun K hK => ?_) ?_
            rotate_left
            · exact AllReadyH.nil
            go_simp
            have hHn := hHeld
            obtain ⟨⟨c0, c1, c2, c3, c4, c5⟩, hL, hB⟩ := hHn
            refine (H2.out _ hL).mono ?_
            rintro e wN ⟨rfl, hBN⟩
            clear c0 c1 c2 c3 c4 c5 hL hB
            refine hK.out _ _ ?_ (fun hHeld => ?_)
            · (try dsimp only); obtain ⟨⟨c0, c1, c2, c3, c4, c5⟩, hL, hB⟩ := hHeld; exact ⟨⟨cell_keep hBN c0, cell_keep hBN c1, cell_keep hBN c2, cell_keep hBN c3, cell_keep hBN c4, cell_keep hBN c5⟩, hL.below hBN (Nat.le_refl _), hB.trans (hBN.mono hB.size)⟩
            clear hK K
            try simp only [Act.put, List.getElem_toArray, List.getElem_cons_succ, List.getElem_cons_zero, List.setIfInBounds_toArray, List.set_cons_zero, List.set_cons_succ]
            refine wpAnyH_take (i := 8) (v := ?_) rfl (by kernel_rfl) (by kernel_rfl) (by kernel_rfl) (fun _ _ _ h => h) (Or.inl ⟨by kernel_rfl, ?_⟩) (by assumption) ?_
            rotate_left
            · (intro w hSw; (try dsimp only at hSw); (try obtain ⟨⟨c0, c1, c2, c3, c4, c5⟩, hL, hB⟩ := hSw); go_simp); (try with_reducible rfl)
            try simp only [Act.put, List.getElem_toArray, List.getElem_cons_succ, List.getElem_cons_zero, List.setIfInBounds_toArray, List.set_cons_zero, List.set_cons_succ]
            refine wpAnyH_take (i := 9) (v := ?_) rfl (by kernel_rfl) (by kernel_rfl) (by kernel_rfl) (fun _ _ _ h => h) (Or.inl ⟨by kernel_rfl, ?_⟩) (by assumption) ?_
            rotate_left
            · (intro w hSw; (try dsimp only at hSw); (try obtain ⟨⟨c0, c1, c2, c3, c4, c5⟩, hL, hB⟩ := hSw); go_simp); (try with_reducible rfl)
            try simp only [Act.put, List.getElem_toArray, List.getElem_cons_succ, List.getElem_cons_zero, List.setIfInBounds_toArray, List.set_cons_zero, List.set_cons_succ]
            refine wpAnyH_done (by kernel_rfl) ?_ _
            refine NoPanic.normal ?_
            go_wp2
            go_ret
            exact ⟨by simp, hHeld.2.2⟩
          · clear c1 c2 c3
            go_enter Tryd.func3, Tryd.ntmps3
            go_wp2_with fail
            refine (HM.out _).mono ?_
            rintro e w1 ⟨rfl, hB⟩
            have HF1 := Lib.hid (HF.out.below hB)
            have HB1 := Lib.hid (HB.out.trans (hB.mono HB.out.size))
            have HL1 := Lib.hid (HL.out.below hB (Nat.le_refl _))
            have x0 := cell_keep hB (show World.cell? _ ⟨w.heap.size, 0, none⟩ = some (.int .i64 6) by simp [go_sem])
            have x1 := cell_keep hB (show World.cell? _ ⟨w.heap.size, 1, none⟩ = some (.int .i64 n) by simp [go_sem])
            have x2 := cell_keep hB (show World.cell? _ ⟨w.heap.size, 2, none⟩ = some (.int .i64 m) by simp [go_sem])
            have x3 := cell_keep hB (show World.cell? _ ⟨(w.heap.size + 1), 0, none⟩ = some (.int .i64 N) by simp [go_sem])
            have x4 := cell_keep hB (show World.cell? _ ⟨(w.heap.size + 1), 1, none⟩ = some (.bool L) by simp [go_sem])
            have x5 := cell_keep hB (show World.cell? _ ⟨(w.heap.size + 1), 2, none⟩ = some (.slice p ln cap) by simp [go_sem])
            clear hB
            go_wp2_with fail
            refine (HS.out _ HF1.out).mono ?_
            rintro e w2 ⟨rfl, hB⟩
            have HB2 := Lib.hid (HB1.out.trans (hB.mono HB1.out.size))
            have HL2 := Lib.hid (HL1.out.below hB (Nat.le_refl _))
            replace x0 := cell_keep hB x0
            replace x1 := cell_keep hB x1
            replace x2 := cell_keep hB x2
            replace x3 := cell_keep hB x3
            replace x4 := cell_keep hB x4
            replace x5 := cell_keep hB x5
            clear hB
            go_wp2_with fail
            refine wp_region_noPanic ?_
            refine wp_region_held_drew (S := fun w' => (w'.cell? ⟨w.heap.size, 0, none⟩ = some (.int .i64 6) ∧ w'.cell? ⟨w.heap.size, 1, none⟩ = some (.int .i64 n) ∧ w'.cell? ⟨w.heap.size, 2, none⟩ = some (.int .i64 m) ∧ w'.cell? ⟨(w.heap.size + 1), 0, none⟩ = some (.int .i64 N) ∧ w'.cell? ⟨(w.heap.size + 1), 1, none⟩ = some (.bool L) ∧ w'.cell? ⟨(w.heap.size + 1), 2, none⟩ = some (.slice p ln cap)) ∧ Bls w' p ln cap H ∧ Below w.heap.size w w') (by kernel_rfl) ?_ (fun hHeld => ?_)
            · (try dsimp only); exact ⟨⟨x0, x1, x2, x3, x4, x5⟩, HL2.out.below (Below.refl _ _).drew (Nat.le_refl _), HB2.out.drew⟩
            refine wpAnyH_take (i := 0) (v := ?_) rfl (by kernel_rfl) (by kernel_rfl) (by kernel_rfl) (fun _ _ _ h => h) (Or.inl ⟨by kernel_rfl, ?_⟩) (by assumption) ?_
            rotate_left
            · (intro w hSw; (try dsimp only at hSw); (try obtain ⟨⟨c0, c1, c2, c3, c4, c5⟩, hL, hB⟩ := hSw); go_simp); (try with_reducible rfl)
            try simp only [Act.put, List.getElem_toArray, List.getElem_cons_succ, List.getElem_cons_zero, List.setIfInBounds_toArray, List.set_cons_zero, List.set_cons_succ]
            refine wpAnyH_take (i := 1) (v := ?_) rfl (by kernel_rfl) (by kernel_rfl) (by kernel_rfl) (fun _ _ _ h => h) (Or.inl ⟨by kernel_rfl, ?_⟩) (by assumption) ?_
            rotate_left
            · (intro w hSw; (try dsimp only at hSw); (try obtain ⟨⟨c0, c1, c2, c3, c4, c5⟩, hL, hB⟩ := hSw); go_simp); (try with_reducible rfl)
            try simp only [Act.put, List.getElem_toArray, List.getElem_cons_succ, List.getElem_cons_zero, List.setIfInBounds_toArray, List.set_cons_zero, List.set_cons_succ]
            refine wpAnyH_take (i := 3) (v := ?_) rfl (by kernel_rfl) (by kernel_rfl) (by kernel_rfl) (fun _ _ _ h => h) (Or.inl ⟨by kernel_rfl, ?_⟩) (by assumption) ?_
            rotate_left
            · (intro w hSw; (try dsimp only at hSw); (try obtain ⟨⟨c0, c1, c2, c3, c4, c5⟩, hL, hB⟩ := hSw); go_simp); (try with_reducible rfl)
            try simp only [Act.put, List.getElem_toArray, List.getElem_cons_succ, List.getElem_cons_zero, List.setIfInBounds_toArray, List.set_cons_zero, List.set_cons_succ]
            refine wpAnyH_take (i := 5) (v := ?_) rfl (by kernel_rfl) (by kernel_rfl) (by kernel_rfl) (fun _ _ _ h => h) (Or.inl ⟨by kernel_rfl, ?_⟩) (by assumption) ?_
            rotate_left
            · (intro w hSw; (try dsimp only at hSw); (try obtain ⟨⟨c0, c1, c2, c3, c4, c5⟩, hL, hB⟩ := hSw); go_simp); (try with_reducible rfl)
            try simp only [Act.put, List.getElem_toArray, List.getElem_cons_succ, List.getElem_cons_zero, List.setIfInBounds_toArray, List.set_cons_zero, List.set_cons_succ]
            refine wpAnyH_ready (rs := [2]) (by kernel_rfl) (by simp) ?_
            refine AllReadyH.cons rfl (fun K hK => ?_) ?_
            rotate_left
            · exact AllReadyH.nil
            go_simp
            have hHn := hHeld
            obtain ⟨⟨c0, c1, c2, c3, c4, c5⟩, hL, hB⟩ := hHn
            refine (H1.out _ hL).mono ?_
            rintro e wN ⟨rfl, hBN⟩
            clear c0 c1 c2 c3 c4 c5 hL hB
            refine hK.out _ _ ?_ (fun hHeld => ?_)
            · (try dsimp only); obtain ⟨⟨c0, c1, c2, c3, c4, c5⟩, hL, hB⟩ := hHeld; exact ⟨⟨cell_keep hBN c0, cell_keep hBN c1, cell_keep hBN c2, cell_keep hBN c3, cell_keep hBN c4, cell_keep hBN c5⟩, hL.below hBN (Nat.le_refl _), hB.trans (hBN.mono hB.size)⟩
            clear hK K
            try simp only [Act.put, List.getElem_toArray, List.getElem_cons_succ, List.getElem_cons_zero, List.setIfInBounds_toArray, List.set_cons_zero, List.set_cons_succ]
            refine wpAnyH_ready (rs := [4]) (by kernel_rfl) (by simp) ?_
            refine AllReadyH.cons rfl (fun K hK => ?_) ?_
            rotate_left
            · exact AllReadyH.nil
            go_simp
            have hHn := hHeld
            obtain ⟨⟨c0, c1, c2, c3, c4, c5⟩, hL, hB⟩ := hHn
            refine (H3.out _).mono ?_
            rintro e wN ⟨rfl, hBN⟩
            clear c0 c1 c2 c3 c4 c5 hL hB
            refine hK.out _ _ ?_ (fun hHeld => ?_)
            · (try dsimp only); obtain ⟨⟨c0, c1, c2, c3, c4, c5⟩, hL, hB⟩ := hHeld; exact ⟨⟨cell_keep hBN c0, cell_keep hBN c1, cell_keep hBN c2, cell_keep hBN c3, cell_keep hBN c4, cell_keep hBN c5⟩, hL.below hBN (Nat.le_refl _), hB.trans (hBN.mono hB.size)⟩
            clear hK K
            try simp only [Act.put, List.getElem_toArray, List.getElem_cons_succ, List.getElem_cons_zero, List.setIfInBounds_toArray, List.set_cons_zero, List.set_cons_succ]
            refine wpAnyH_ready (rs := [6]) (by kernel_rfl) (by simp) ?_
            refine AllReadyH.cons rfl (fun K hK => ?_) ?_
            rotate_left
            · exact AllReadyH.nil
            go_simp
            have hHn := hHeld
            obtain ⟨⟨c0, c1, c2, c3, c4, c5⟩, hL, hB⟩ := hHn
            refine (H4.out _).mono ?_
            rintro e wN ⟨rfl, hBN⟩
            clear c0 c1 c2 c3 c4 c5 hL hB
            refine hK.out _ _ ?_ (fun hHeld => ?_)
            · (try dsimp only); obtain ⟨⟨c0, c1, c2, c3, c4, c5⟩, hL, hB⟩ := hHeld; exact ⟨⟨cell_keep hBN c0, cell_keep hBN c1, cell_keep hBN c2, cell_keep hBN c3, cell_keep hBN c4, cell_keep hBN c5⟩, hL.below hBN (Nat.le_refl _), hB.trans (hBN.mono hB.size)⟩
            clear hK K
            try simp only [Act.put, List.getElem_toArray, List.getElem_cons_succ, List.getElem_cons_zero, List.setIfInBounds_toArray, List.set_cons_zero, List.set_cons_succ]
            refine wpAnyH_ready (rs := [7]) (by kernel_rfl) (by simp) ?_
            refine AllReadyH.cons rfl (fun K hK => ?_) ?_
            rotate_left
            · exact AllReadyH.nil
            go_simp
            have hHn := hHeld
            obtain ⟨⟨c0, c1, c2, c3, c4, c5⟩, hL, hB⟩ := hHn
            refine (H2.out _ hL).mono ?_
            rintro e wN ⟨rfl, hBN⟩
            clear c0 c1 c2 c3 c4 c5 hL hB
            refine hK.out _ _ ?_ (fun hHeld => ?_)
            · (try dsimp only); obtain ⟨⟨c0, c1, c2, c3, c4, c5⟩, hL, hB⟩ := hHeld; exact ⟨⟨cell_keep hBN c0, cell_keep hBN c1, cell_keep hBN c2, cell_keep hBN c3, cell_keep hBN c4, cell_keep hBN c5⟩, hL.below hBN (Nat.le_refl _), hB.trans (hBN.mono hB.size)⟩
            clear hK K
            try simp only [Act.put, List.getElem_toArray, List.getElem_cons_succ, List.getElem_cons_zero, List.setIfInBounds_toArray, List.set_cons_zero, List.set_cons_succ]
            refine wpAnyH_take (i := 8) (v := ?_) rfl (by kernel_rfl) (by kernel_rfl) (by kernel_rfl) (fun _ _ _ h => h) (Or.inl ⟨by kernel_rfl, ?_⟩) (by assumption) ?_
            rotate_left
            · (intro w hSw; (try dsimp only at hSw); (try obtain ⟨⟨c0, c1, c2, c3, c4, c5⟩, hL, hB⟩ := hSw); go_simp); (try with_reducible rfl)
            try simp only [Act.put, List.getElem_toArray, List.getElem_cons_succ, List.getElem_cons_zero, List.setIfInBounds_toArray, List.set_cons_zero, List.set_cons_succ]
            refine wpAnyH_take (i := 9) (v := ?_) rfl (by kernel_rfl) (by kernel_rfl) (by kernel_rfl) (fun _ _ _ h => h) (Or.inl ⟨by kernel_rfl, ?_⟩) (by assumption) ?_
            rotate_left
            · (intro w hSw; (try dsimp only at hSw); (try obtain ⟨⟨c0, c1, c2, c3, c4, c5⟩, hL, hB⟩ := hSw); go_simp); (try with_reducible rfl)
            try simp only [Act.put, List.getElem_toArray, List.getElem_cons_succ, List.getElem_cons_zero, List.setIfInBounds_toArray, List.set_cons_zero, List.set_cons_succ]
            refine wpAnyH_done (by kernel_rfl) ?_ _
            refine NoPanic.normal ?_
            go_wp2
            go_ret
            exact ⟨by simp, hHeld.2.2⟩

end Go.Proofs.YtaamhjjdhebjfaaDoor
