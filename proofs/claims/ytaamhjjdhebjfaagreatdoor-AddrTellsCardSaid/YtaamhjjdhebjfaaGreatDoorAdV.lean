/- The reference's begun; rng. -/
import Derived.Test.YtaamhjjdhebjfaaGreatDoorAdU
import Derived.Test.YtaamhjjdhebjfaaGreatDoorAdR
namespace Go.Proofs.YtaamhjjdhebjfaaGreatDoor
open Go.RowKit Go.Lib
set_option linter.unusedVariables false
set_option linter.unusedSimpArgs false

theorem cell_set7 {w : World} {b b' j : Nat} {v u0 u1 u2 u3 u4 u5 u6 : Value} (h : w.cell? ⟨b, j, none⟩ = some v) (hne : b' ≠ b) : (((((((w.setCell ⟨b', 0, none⟩ u0).setCell ⟨b', 1, none⟩ u1).setCell ⟨b', 2, none⟩ u2).setCell ⟨b', 3, none⟩ u3).setCell ⟨b', 4, none⟩ u4).setCell ⟨b', 5, none⟩ u5).setCell ⟨b', 6, none⟩ u6).cell? ⟨b, j, none⟩ = some v := cell_set1 (cell_set1 (cell_set1 (cell_set1 (cell_set1 (cell_set1 (cell_set1 h hne) hne) hne) hne) hne) hne) hne
set_option maxRecDepth 100000 in
set_option maxHeartbeats 8000000 in
theorem begun_c (b : Ad) (N : Int) (L : Bool) (hv : Value) (h0 : 0 ≤ N) (h1 : N ≤ 999999999) (h2 : b.n ≤ 999999999) (h3 : 0 ≤ b.n) (w : World) :
    Calls Tryz.prog 39 #[adv b, lnv N L hv] w fun e w' => e = .returned (stv (begA b N L)) ∧ Below w.heap.size w w' := by
  obtain ⟨k, n, m⟩ := b
  simp only at h2 h3
  have HB3 := Lib.hid (Below.al3 w)
  unfold adv lnv stv
  by_cases k1 : k = 1
  · subst k1
    rw [show begA ⟨1, n, m⟩ N L = opn (decide (N < n)) n from rfl]
    by_cases c : N < n
    · have t : decide (N < n) = true := by simp [c]
      rw [t, show opn true n = (true, n) from rfl]
      go_enter Tryz.func39, Tryz.ntmps39
      go_wp2
      refine bodyPost_ret (v := .agg #[.bool true, .int .i64 n]) (by simp [results, Tryz.results39, go_sem]) rfl ⟨rfl, HB3.out _ _ _⟩
    · have t : decide (N < n) = false := by simp; omega
      rw [t, show opn false n = (false, 0) from rfl]
      go_enter Tryz.func39, Tryz.ntmps39
      go_wp2
      refine bodyPost_ret (v := .agg #[.bool false, .int .i64 0]) (by simp [results, Tryz.results39, go_sem]) rfl ⟨rfl, HB3.out _ _ _⟩
  · have t1 : (k == 1) = false := by simpa using k1
    by_cases k2 : k = 2
    · subst k2
      rw [show begA ⟨2, n, m⟩ N L = (!L, 0) by cases L <;> rfl]
      go_enter Tryz.func39, Tryz.ntmps39
      go_wp2
      refine bodyPost_ret (v := .agg #[.bool (!L), .int .i64 0]) (by simp [results, Tryz.results39, go_sem]) rfl ⟨rfl, HB3.out _ _ _⟩
    · have t2 : (k == 2) = false := by simpa using k2
      by_cases k4 : k = 4
      · subst k4
        rw [show begA ⟨4, n, m⟩ N L = (true, 0) from rfl]
        go_enter Tryz.func39, Tryz.ntmps39
        go_wp2
        refine bodyPost_ret (v := .agg #[.bool true, .int .i64 0]) (by simp [results, Tryz.results39, go_sem]) rfl ⟨rfl, HB3.out _ _ _⟩
      · have t4 : (k == 4) = false := by simpa using k4
        by_cases k5 : k = 5
        · subst k5
          rw [show begA ⟨5, n, m⟩ N L = opn (decide (0 < n)) (N + n) from rfl]
          have w1 : IntKind.i64.wrap (N + n) = N + n := by simp [IntKind.wrap, IntKind.signed, IntKind.bits]; omega
          by_cases c : 0 < n
          · have t : decide (0 < n) = true := by simp [c]
            have t' : N < N + n := by omega
            rw [t, show opn true (N + n) = (true, N + n) from rfl]
            go_enter Tryz.func39, Tryz.ntmps39
            go_wp2
            refine bodyPost_ret (v := .agg #[.bool true, .int .i64 (N + n)]) (by simp [results, Tryz.results39, go_sem]) rfl ⟨rfl, HB3.out _ _ _⟩
          · have t : decide (0 < n) = false := by simp; omega
            have t' : ¬ N < N + n := by omega
            rw [t, show opn false (N + n) = (false, 0) from rfl]
            go_enter Tryz.func39, Tryz.ntmps39
            go_wp2
            refine bodyPost_ret (v := .agg #[.bool false, .int .i64 0]) (by simp [results, Tryz.results39, go_sem]) rfl ⟨rfl, HB3.out _ _ _⟩
        · have t5 : (k == 5) = false := by simpa using k5
          by_cases k6 : k = 6
          · subst k6
            rw [show begA ⟨6, n, m⟩ N L = opn (decide (mulFrom N n ≠ N)) (mulFrom N n) from rfl]
            clear t1 t2 t4 t5 k1 k2 k4 k5
            by_cases c : 0 < n
            · have c0 : ¬ n = 0 := by omega
              have cb : (n == 0) = false := by rw [beq_eq_false_iff_ne]; exact c0
              have p1 := Int.emod_lt_of_pos N c
              have p2 := Int.emod_nonneg N c0
              have p3 : N.tmod n = N % n := Int.tmod_eq_emod_of_nonneg h0
              have hm : mulFrom N n = if N % n = 0 then N else N + n - N % n := by unfold mulFrom; rw [if_neg (by omega)]
              rw [hm]
              obtain ⟨x, hx⟩ : ∃ x, x = N % n := ⟨_, rfl⟩
              rw [← hx] at p1 p2 p3 ⊢
              have p4 := hx.symm
              clear hx hm
              have w0 : IntKind.i64.wrap x = x := by simp [IntKind.wrap, IntKind.signed, IntKind.bits]; omega
              by_cases q : x = 0
              · subst q
                rw [if_pos rfl, show decide (N ≠ N) = false by simp, show opn false N = (false, 0) from rfl]
                have t' : ¬ N < N := by omega
                go_enter Tryz.func39, Tryz.ntmps39
                go_wp2
                refine bodyPost_ret (v := .agg #[.bool false, .int .i64 0]) (by simp [results, Tryz.results39, go_sem]) rfl ⟨rfl, HB3.out _ _ _⟩
              · rw [if_neg q, show decide (N + n - x ≠ N) = true by simp; omega, show opn true (N + n - x) = (true, N + n - x) from rfl]
                have w1 : IntKind.i64.wrap (N + n) = N + n := by simp [IntKind.wrap, IntKind.signed, IntKind.bits]; omega
                have w2 : IntKind.i64.wrap (N + n - x) = N + n - x := by simp [IntKind.wrap, IntKind.signed, IntKind.bits]; omega
                have t' : N < N + n - x := by omega
                have qb : (x == 0) = false := by simpa using q
                go_enter Tryz.func39, Tryz.ntmps39
                go_wp2_with fail
                go_region
                all_goals go_wp2
                all_goals exact bodyPost_ret (v := .agg #[.bool true, .int .i64 (N + n - x)]) (by simp [results, Tryz.results39, go_sem]) rfl ⟨rfl, (HB3.out _ _ _).drew⟩
            · obtain rfl : n = 0 := by omega
              have hm : mulFrom N 0 = N := rfl
              rw [hm, show decide (N ≠ N) = false by simp, show opn false N = (false, 0) from rfl]
              have t' : ¬ N < N := by omega
              go_enter Tryz.func39, Tryz.ntmps39
              go_wp2
              refine bodyPost_ret (v := .agg #[.bool false, .int .i64 0]) (by simp [results, Tryz.results39, go_sem]) rfl ⟨rfl, HB3.out _ _ _⟩
          · have t6 : (k == 6) = false := by simpa using k6
            have e : begA ⟨k, n, m⟩ N L = (false, 0) := by
              unfold begA
              rw [if_neg k1, if_neg k2, if_neg k4, if_neg k5, if_neg k6]
            rw [e]
            have t' : ¬ N < 0 := by omega
            go_enter Tryz.func39, Tryz.ntmps39
            go_wp2
            refine bodyPost_ret (v := .agg #[.bool false, .int .i64 0]) (by simp [results, Tryz.results39, go_sem]) rfl ⟨rfl, HB3.out _ _ _⟩

set_option maxRecDepth 100000 in
set_option maxHeartbeats 8000000 in
theorem rng_c (r : Rg) (w : World) : Calls Tryz.prog 8 #[rgv r] w fun e w' => e = .returned (rgv r) ∧ Below w.heap.size w w' := by
  obtain ⟨⟨ak, an, am⟩, ⟨bk, bn, bm⟩, nt⟩ := r
  have I1 := fun w => its_c ⟨ak, an, am⟩ w
  have I2 := fun w => its_c ⟨bk, bn, bm⟩ w
  unfold adv at I1 I2
  unfold rgv
  simp only
  have H1 := Lib.hid I1
  have H2 := Lib.hid I2
  have HB := Lib.hid (Below.al2 w (.cells #[.int .i64 ak, .int .i64 an, .int .i64 am, .int .i64 bk, .int .i64 bn, .int .i64 bm, .bool nt] 25) (.cells #[.int .i64 0, .int .i64 0, .int .i64 0, .int .i64 0, .int .i64 0, .int .i64 0, .bool false] 33))
  have HT : Seven ((w.alloc (.cells #[.int .i64 ak, .int .i64 an, .int .i64 am, .int .i64 bk, .int .i64 bn, .int .i64 bm, .bool nt] 25)).alloc (.cells #[.int .i64 0, .int .i64 0, .int .i64 0, .int .i64 0, .int .i64 0, .int .i64 0, .bool false] 33)) (w.heap.size + 1) 33 (.int .i64 0) (.int .i64 0) (.int .i64 0) (.int .i64 0) (.int .i64 0) (.int .i64 0) (.bool false) := by
    have h := Seven.new (w.alloc (.cells #[.int .i64 ak, .int .i64 an, .int .i64 am, .int .i64 bk, .int .i64 bn, .int .i64 bm, .bool nt] 25)) 33 (.int .i64 0) (.int .i64 0) (.int .i64 0) (.int .i64 0) (.int .i64 0) (.int .i64 0) (.bool false)
    rw [World.size_alloc] at h
    exact h
  have HT := Lib.hid HT
  clear I1 I2
  go_enter Tryz.func8, Tryz.ntmps8
  go_wp2_with fail
  refine wp_region_noPanic ?_
  refine wp_region_held_drew (S := fun w' => (w'.cell? ⟨w.heap.size, 0, none⟩ = some (.int .i64 ak) ∧ w'.cell? ⟨w.heap.size, 1, none⟩ = some (.int .i64 an) ∧ w'.cell? ⟨w.heap.size, 2, none⟩ = some (.int .i64 am) ∧ w'.cell? ⟨w.heap.size, 3, none⟩ = some (.int .i64 bk) ∧ w'.cell? ⟨w.heap.size, 4, none⟩ = some (.int .i64 bn) ∧ w'.cell? ⟨w.heap.size, 5, none⟩ = some (.int .i64 bm) ∧ w'.cell? ⟨w.heap.size, 6, none⟩ = some (.bool nt)) ∧ (∃ v0 v1 v2 v3 v4 v5 v6, Seven w' (w.heap.size + 1) 33 v0 v1 v2 v3 v4 v5 v6) ∧ Below w.heap.size w w') (by kernel_rfl) ?_ (fun hHeld => ?_)
  · (try dsimp only); exact ⟨by simp [go_sem], ⟨_, _, _, _, _, _, _, HT.out.drew⟩, HB.out.drew⟩
  refine wpAnyH_take (i := 0) (v := ?_) rfl (by kernel_rfl) (by kernel_rfl) (by kernel_rfl) (fun _ _ _ h => h) (Or.inl ⟨by kernel_rfl, ?_⟩) (by assumption) ?_
  rotate_left
  · (intro w hSw; (try dsimp only at hSw); (try obtain ⟨⟨c0, c1, c2, c3, c4, c5, c6⟩, hT, hB⟩ := hSw); go_simp); (try with_reducible rfl)
  try simp only [Act.put, List.getElem_toArray, List.getElem_cons_succ, List.getElem_cons_zero, List.setIfInBounds_toArray, List.set_cons_zero, List.set_cons_succ]
  refine wpAnyH_take (i := 1) (v := ?_) rfl (by kernel_rfl) (by kernel_rfl) (by kernel_rfl) (fun _ _ _ h => h) (Or.inl ⟨by kernel_rfl, ?_⟩) (by assumption) ?_
  rotate_left
  · (intro w hSw; (try dsimp only at hSw); (try obtain ⟨⟨c0, c1, c2, c3, c4, c5, c6⟩, hT, hB⟩ := hSw); go_simp); (try with_reducible rfl)
  try simp only [Act.put, List.getElem_toArray, List.getElem_cons_succ, List.getElem_cons_zero, List.setIfInBounds_toArray, List.set_cons_zero, List.set_cons_succ]
  refine wpAnyH_take (i := 3) (v := ?_) rfl (by kernel_rfl) (by kernel_rfl) (by kernel_rfl) (fun _ _ _ h => h) (Or.inl ⟨by kernel_rfl, ?_⟩) (by assumption) ?_
  rotate_left
  · (intro w hSw; (try dsimp only at hSw); (try obtain ⟨⟨c0, c1, c2, c3, c4, c5, c6⟩, hT, hB⟩ := hSw); go_simp); (try with_reducible rfl)
  try simp only [Act.put, List.getElem_toArray, List.getElem_cons_succ, List.getElem_cons_zero, List.setIfInBounds_toArray, List.set_cons_zero, List.set_cons_succ]
  refine wpAnyH_take (i := 4) (v := ?_) rfl (by kernel_rfl) (by kernel_rfl) (by kernel_rfl) (fun _ _ _ h => h) (Or.inl ⟨by kernel_rfl, ?_⟩) (by assumption) ?_
  rotate_left
  · (intro w hSw; (try dsimp only at hSw); (try obtain ⟨⟨c0, c1, c2, c3, c4, c5, c6⟩, hT, hB⟩ := hSw); go_simp); (try with_reducible rfl)
  try simp only [Act.put, List.getElem_toArray, List.getElem_cons_succ, List.getElem_cons_zero, List.setIfInBounds_toArray, List.set_cons_zero, List.set_cons_succ]
  refine wpAnyH_take (i := 6) (v := ?_) rfl (by kernel_rfl) (by kernel_rfl) (by kernel_rfl) (fun _ _ _ h => h) (Or.inl ⟨by kernel_rfl, ?_⟩) (by assumption) ?_
  rotate_left
  · (intro w hSw; (try dsimp only at hSw); (try obtain ⟨⟨c0, c1, c2, c3, c4, c5, c6⟩, hT, hB⟩ := hSw); go_simp); (try with_reducible rfl)
  try simp only [Act.put, List.getElem_toArray, List.getElem_cons_succ, List.getElem_cons_zero, List.setIfInBounds_toArray, List.set_cons_zero, List.set_cons_succ]
  refine wpAnyH_take (i := 7) (v := ?_) rfl (by kernel_rfl) (by kernel_rfl) (by kernel_rfl) (fun _ _ _ h => h) (Or.inl ⟨by kernel_rfl, ?_⟩) (by assumption) ?_
  rotate_left
  · (intro w hSw; (try dsimp only at hSw); (try obtain ⟨⟨c0, c1, c2, c3, c4, c5, c6⟩, hT, hB⟩ := hSw); go_simp); (try with_reducible rfl)
  try simp only [Act.put, List.getElem_toArray, List.getElem_cons_succ, List.getElem_cons_zero, List.setIfInBounds_toArray, List.set_cons_zero, List.set_cons_succ]
  refine wpAnyH_ready (rs := [2]) (by kernel_rfl) (by simp) ?_
  refine AllReadyH.cons rfl (fun K hK => ?_) ?_
  rotate_left
  · exact AllReadyH.nil
  go_simp
  have hHn := hHeld
  obtain ⟨⟨c0, c1, c2, c3, c4, c5, c6⟩, hT, hB⟩ := hHn
  refine (H1.out _).mono ?_
  rintro e wN ⟨rfl, hBN⟩
  clear c0 c1 c2 c3 c4 c5 c6 hT hB
  refine hK.out _ _ ?_ (fun hHeld => ?_)
  · (try dsimp only); obtain ⟨⟨c0, c1, c2, c3, c4, c5, c6⟩, hT, hB⟩ := hHeld; exact ⟨⟨cell_keep hBN c0, cell_keep hBN c1, cell_keep hBN c2, cell_keep hBN c3, cell_keep hBN c4, cell_keep hBN c5, cell_keep hBN c6⟩, (by obtain ⟨v0, v1, v2, v3, v4, v5, v6, h⟩ := hT; exact ⟨v0, v1, v2, v3, v4, v5, v6, h.beside hBN⟩), hB.trans (hBN.mono hB.size)⟩
  clear hK K
  try simp only [Act.put, List.getElem_toArray, List.getElem_cons_succ, List.getElem_cons_zero, List.setIfInBounds_toArray, List.set_cons_zero, List.set_cons_succ]
  refine wpAnyH_ready (rs := [5]) (by kernel_rfl) (by simp) ?_
  refine AllReadyH.cons rfl (fun K hK => ?_) ?_
  rotate_left
  · exact AllReadyH.nil
  go_simp
  have hHn := hHeld
  obtain ⟨⟨c0, c1, c2, c3, c4, c5, c6⟩, hT, hB⟩ := hHn
  refine (H2.out _).mono ?_
  rintro e wN ⟨rfl, hBN⟩
  clear c0 c1 c2 c3 c4 c5 c6 hT hB
  refine hK.out _ _ ?_ (fun hHeld => ?_)
  · (try dsimp only); obtain ⟨⟨c0, c1, c2, c3, c4, c5, c6⟩, hT, hB⟩ := hHeld; exact ⟨⟨cell_keep hBN c0, cell_keep hBN c1, cell_keep hBN c2, cell_keep hBN c3, cell_keep hBN c4, cell_keep hBN c5, cell_keep hBN c6⟩, (by obtain ⟨v0, v1, v2, v3, v4, v5, v6, h⟩ := hT; exact ⟨v0, v1, v2, v3, v4, v5, v6, h.beside hBN⟩), hB.trans (hBN.mono hB.size)⟩
  clear hK K
  try simp only [Act.put, List.getElem_toArray, List.getElem_cons_succ, List.getElem_cons_zero, List.setIfInBounds_toArray, List.set_cons_zero, List.set_cons_succ]
  refine wpAnyH_take (i := 8) (v := ?_) rfl (by kernel_rfl) (by kernel_rfl) (by kernel_rfl) (fun _ _ _ h => h) (Or.inl ⟨by kernel_rfl, ?_⟩) (by assumption) ?_
  rotate_left
  · (intro w hSw; (try dsimp only at hSw); (try obtain ⟨⟨c0, c1, c2, c3, c4, c5, c6⟩, hT, hB⟩ := hSw); go_simp); (try with_reducible rfl)
  try simp only [Act.put, List.getElem_toArray, List.getElem_cons_succ, List.getElem_cons_zero, List.setIfInBounds_toArray, List.set_cons_zero, List.set_cons_succ]
  refine wpAnyH_ready (rs := [9]) (by kernel_rfl) (by simp) ?_
  refine AllReadyH.cons rfl (fun K hK => ?_) ?_
  rotate_left
  · exact AllReadyH.nil
  have hHn := hHeld
  obtain ⟨⟨c0, c1, c2, c3, c4, c5, c6⟩, hT, hB⟩ := hHn
  obtain ⟨v0, v1, v2, v3, v4, v5, v6, hT⟩ := hT
  have hS := hT.s (.int .i64 ak) (.int .i64 an) (.int .i64 am) (.int .i64 bk) (.int .i64 bn) (.int .i64 bm) (.bool nt)
  have hB3 := Below.set7 hB (b := w.heap.size + 1) (by omega) (.int .i64 ak) (.int .i64 an) (.int .i64 am) (.int .i64 bk) (.int .i64 bn) (.int .i64 bm) (.bool nt)
  have f0 := hT.fz 0
  have g0 := hT.c0
  have f1 := hT.fz 1
  have g1 := hT.c1
  have f2 := hT.fz 2
  have g2 := hT.c2
  have f3 := hT.fz 3
  have g3 := hT.c3
  have f4 := hT.fz 4
  have g4 := hT.c4
  have f5 := hT.fz 5
  have g5 := hT.c5
  have f6 := hT.fz 6
  have g6 := hT.c6
  go_simp
  refine hK.out _ _ ?_ (fun hHeld => ?_)
  · (try dsimp only); exact ⟨⟨cell_set7 c0 (by omega), cell_set7 c1 (by omega), cell_set7 c2 (by omega), cell_set7 c3 (by omega), cell_set7 c4 (by omega), cell_set7 c5 (by omega), cell_set7 c6 (by omega)⟩, ⟨_, _, _, _, _, _, _, hS⟩, hB3⟩
  clear hK K
  try simp only [Act.put, List.getElem_toArray, List.getElem_cons_succ, List.getElem_cons_zero, List.setIfInBounds_toArray, List.set_cons_zero, List.set_cons_succ]
  refine wpAnyH_done (by kernel_rfl) ?_ _
  refine NoPanic.normal ?_
  go_wp2
  refine bodyPost_ret (v := .agg #[.int .i64 ak, .int .i64 an, .int .i64 am, .int .i64 bk, .int .i64 bn, .int .i64 bm, .bool nt]) (by simp [results, Tryz.results8, go_sem, hS.c0, hS.c1, hS.c2, hS.c3, hS.c4, hS.c5, hS.c6]) rfl ⟨rfl, hB3⟩

end Go.Proofs.YtaamhjjdhebjfaaGreatDoor
