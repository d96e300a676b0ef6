/- The reference's ask, Ask. -/
import Derived.Test.YtaamhjjdhebjfaaGreatDoorAdV
namespace Go.Proofs.YtaamhjjdhebjfaaGreatDoor
open Go.RowKit Go.Lib
set_option linter.unusedVariables false
set_option linter.unusedSimpArgs false

theorem two2 (w : World) (o1 o3 o4 : Obj) (t : TypeId) (v0 v1 : Value) : Two ((((w.alloc o1).alloc (.cells #[v0, v1] t)).alloc o3).alloc o4) (w.heap.size + 1) t v0 v1 := by
  have h := Two.new (w.alloc o1) t v0 v1
  rw [World.size_alloc] at h
  exact (h.alloc o3).alloc o4
/-- goA of an open range, over what its two addresses say of the line. -/
def goE (k s2 N : Int) (X Y : Bool) : Bool × Bool × Int := if k = 1 ∧ s2 < N then (X, false, 0) else if (if k = 2 ∨ k = 4 then Y else decide (s2 ≤ N)) then (true, false, 0) else (true, true, s2)
theorem goE_1 {s2 N : Int} {X Y : Bool} (h : ¬ s2 < N) : goE 1 s2 N X Y = if decide (s2 ≤ N) = true then (true, false, 0) else (true, true, s2) := by
  unfold goE; rw [if_neg (show ¬ ((1 : Int) = 1 ∧ s2 < N) from fun q => h q.2), if_neg (show ¬ ((1 : Int) = 2 ∨ (1 : Int) = 4) by omega)]
theorem goE_2 {s2 N : Int} {X Y : Bool} : goE 2 s2 N X Y = if Y = true then (true, false, 0) else (true, true, s2) := by
  unfold goE; rw [if_neg (show ¬ ((2 : Int) = 1 ∧ s2 < N) by omega), if_pos (show ((2 : Int) = 2 ∨ (2 : Int) = 4) by omega)]
theorem goE_4 {s2 N : Int} {X Y : Bool} : goE 4 s2 N X Y = if Y = true then (true, false, 0) else (true, true, s2) := by
  unfold goE; rw [if_neg (show ¬ ((4 : Int) = 1 ∧ s2 < N) by omega), if_pos (show ((4 : Int) = 2 ∨ (4 : Int) = 4) by omega)]
theorem goE_o {k s2 N : Int} {X Y : Bool} (h1 : ¬ k = 1) (h2 : ¬ k = 2) (h4 : ¬ k = 4) : goE k s2 N X Y = if decide (s2 ≤ N) = true then (true, false, 0) else (true, true, s2) := by
  unfold goE; rw [if_neg (show ¬ (k = 1 ∧ s2 < N) from fun q => h1 q.1), if_neg (show ¬ (k = 2 ∨ k = 4) by omega)]
theorem goE_eq (r : Rg) (s2 N : Int) (L : Bool) (H : List Bool) : goA r (true, s2) N L H = goE r.b.k s2 N (hitA r.a N L H) (hitA r.b N L H) := rfl

set_option maxRecDepth 100000 in
set_option maxHeartbeats 8000000 in
theorem rask_c (r : Rg) (s : Bool × Int) (N : Int) (L : Bool) (p : Option Addr) (ln cap : Nat) (H : List Bool) (hm : mayR r = true) (hN0 : 0 ≤ N) (hN : N ≤ 999999999) (w : World) (hH : Bls w p ln cap H) :
    Calls Tryz.prog 25 #[rgv r, stv s, lnv N L (.slice p ln cap)] w fun e w' => e = .returned (asv (askA r s N L H)) ∧ Below w.heap.size w w' := by
  obtain ⟨ha, hb, -⟩ := mayR_iff.1 hm
  have hA := isAd.nums ha
  have hBn := isAd.nums hb
  obtain ⟨⟨ak, an, am⟩, ⟨bk, bn, bm⟩, nt⟩ := r
  obtain ⟨s1, s2⟩ := s
  obtain ⟨_, _, x1, x2, x3, x4⟩ := hA
  obtain ⟨_, _, y1, y2, y3, y4⟩ := hBn
  simp only at x1 x2 x3 x4 y1 y2 y3 y4
  have HC0 := fun w h => rhits_c ⟨ak, an, am⟩ N L p ln cap H (fun _ => ⟨x1, x2, x3, x4⟩) hN0 hN w h
  have HD0 := fun w h => rhits_c ⟨bk, bn, bm⟩ N L p ln cap H (fun _ => ⟨y1, y2, y3, y4⟩) hN0 hN w h
  have HE0 := fun w => begun_c ⟨bk, bn, bm⟩ N L (.slice p ln cap) hN0 hN y2 y1 w
  have hYL : bk = 2 → hitA ⟨bk, bn, bm⟩ N L H = L := by rintro rfl; rfl
  have e0 : askA ⟨⟨ak, an, am⟩, ⟨bk, bn, bm⟩, nt⟩ (s1, s2) N L H = if bk = 0 then (hitA ⟨ak, an, am⟩ N L H, s1, s2) else if s1 then goA ⟨⟨ak, an, am⟩, ⟨bk, bn, bm⟩, nt⟩ (s1, s2) N L H else if (ak = 1 ∧ an = 0) ∧ N = 1 then goA ⟨⟨ak, an, am⟩, ⟨bk, bn, bm⟩, nt⟩ (true, 0) N L H
      else if hitA ⟨ak, an, am⟩ N L H then (true, begA ⟨bk, bn, bm⟩ N L) else (false, s1, s2) := rfl
  rw [e0]
  have e2 : goA ⟨⟨ak, an, am⟩, ⟨bk, bn, bm⟩, nt⟩ (true, 0) N L H = goE bk 0 N (hitA ⟨ak, an, am⟩ N L H) (hitA ⟨bk, bn, bm⟩ N L H) := rfl
  have e3 : s1 = true → goA ⟨⟨ak, an, am⟩, ⟨bk, bn, bm⟩, nt⟩ (s1, s2) N L H = goE bk s2 N (hitA ⟨ak, an, am⟩ N L H) (hitA ⟨bk, bn, bm⟩ N L H) := by rintro rfl; rfl
  rw [e2]
  have HL := Lib.hid (fun o1 o2 o3 o4 => hH.below (Below.al4 w o1 o2 o3 o4) (Nat.le_refl _))
  have HB4 := Lib.hid (Below.al4 w)
  generalize hitA ⟨ak, an, am⟩ N L H = X at HC0 e3 ⊢
  generalize hitA ⟨bk, bn, bm⟩ N L H = Y at HD0 hYL e3 ⊢
  generalize begA ⟨bk, bn, bm⟩ N L = B at HE0 ⊢
  obtain ⟨ba, bb⟩ := B
  unfold adv lnv at HC0 HD0
  unfold adv lnv stv at HE0
  unfold rgv lnv asv stv
  have HC := Lib.hid HC0
  have HD := Lib.hid HD0
  have HE := Lib.hid HE0
  clear HC0 HD0 HE0 e0 e2 hN0 hN x1 x2 x3 x4 y1 y2 y3 y4 hm ha hb hH
  by_cases h : bk = 0
  · subst h
    rw [if_pos rfl]
    clear e3 hYL
    have HN := Lib.hid (Two.new4 w (.cells #[.int .i64 ak, .int .i64 an, .int .i64 am, .int .i64 0, .int .i64 bn, .int .i64 bm, .bool nt] 33) (.cells #[.bool s1, .int .i64 s2] 45) (.cells #[.int .i64 N, .bool L, .slice p ln cap] 53) 45 (.bool false) (.int .i64 0))
    have HU := Lib.hid (HB4.out (.cells #[.int .i64 ak, .int .i64 an, .int .i64 am, .int .i64 0, .int .i64 bn, .int .i64 bm, .bool nt] 33) (.cells #[.bool s1, .int .i64 s2] 45) (.cells #[.int .i64 N, .bool L, .slice p ln cap] 53) (.cells #[.bool false, .int .i64 0] 45))
    go_enter Tryz.func25, Tryz.ntmps25
    go_wp2_with fail
    refine wp_region_noPanic ?_
    refine wp_region_held_drew (S := fun w' => (w'.cell? ⟨w.heap.size, 0, none⟩ = some (.int .i64 ak) ∧ w'.cell? ⟨w.heap.size, 1, none⟩ = some (.int .i64 an) ∧ w'.cell? ⟨w.heap.size, 2, none⟩ = some (.int .i64 am) ∧ w'.cell? ⟨w.heap.size, 3, none⟩ = some (.int .i64 0) ∧ w'.cell? ⟨w.heap.size, 4, none⟩ = some (.int .i64 bn) ∧ w'.cell? ⟨w.heap.size, 5, none⟩ = some (.int .i64 bm) ∧ w'.cell? ⟨w.heap.size, 6, none⟩ = some (.bool nt) ∧ w'.cell? ⟨(w.heap.size + 1), 0, none⟩ = some (.bool s1) ∧ w'.cell? ⟨(w.heap.size + 1), 1, none⟩ = some (.int .i64 s2) ∧ w'.cell? ⟨(w.heap.size + 1 + 1), 0, none⟩ = some (.int .i64 N) ∧ w'.cell? ⟨(w.heap.size + 1 + 1), 1, none⟩ = some (.bool L) ∧ w'.cell? ⟨(w.heap.size + 1 + 1), 2, none⟩ = some (.slice p ln cap)) ∧ (∃ v0 v1, Two w' (w.heap.size + 1 + 1 + 1) 45 v0 v1) ∧ Below w.heap.size w w') (by kernel_rfl) ?_ (fun hHeld => ?_)
    · (try dsimp only); exact ⟨by simp [go_sem], ⟨_, _, HN.out.drew⟩, HU.out.drew⟩
    refine wpAnyH_take (i := 0) (v := ?_) rfl (by kernel_rfl) (by kernel_rfl) (by kernel_rfl) (fun _ _ _ h => h) (Or.inl ⟨by kernel_rfl, ?_⟩) (by assumption) ?_
    rotate_left
    · (intro w hSw; (try dsimp only at hSw); (try obtain ⟨⟨c0, c1, c2, c3, c4, c5, c6, c7, c8, c9, c10, c11⟩, hT, hB⟩ := hSw); go_simp); (try with_reducible rfl)
    try simp only [Act.put, List.getElem_toArray, List.getElem_cons_succ, List.getElem_cons_zero, List.setIfInBounds_toArray, List.set_cons_zero, List.set_cons_succ]
    refine wpAnyH_take (i := 1) (v := ?_) rfl (by kernel_rfl) (by kernel_rfl) (by kernel_rfl) (fun _ _ _ h => h) (Or.inl ⟨by kernel_rfl, ?_⟩) (by assumption) ?_
    rotate_left
    · (intro w hSw; (try dsimp only at hSw); (try obtain ⟨⟨c0, c1, c2, c3, c4, c5, c6, c7, c8, c9, c10, c11⟩, hT, hB⟩ := hSw); go_simp); (try with_reducible rfl)
    try simp only [Act.put, List.getElem_toArray, List.getElem_cons_succ, List.getElem_cons_zero, List.setIfInBounds_toArray, List.set_cons_zero, List.set_cons_succ]
    refine wpAnyH_take (i := 2) (v := ?_) rfl (by kernel_rfl) (by kernel_rfl) (by kernel_rfl) (fun _ _ _ h => h) (Or.inl ⟨by kernel_rfl, ?_⟩) (by assumption) ?_
    rotate_left
    · (intro w hSw; (try dsimp only at hSw); (try obtain ⟨⟨c0, c1, c2, c3, c4, c5, c6, c7, c8, c9, c10, c11⟩, hT, hB⟩ := hSw); go_simp); (try with_reducible rfl)
    try simp only [Act.put, List.getElem_toArray, List.getElem_cons_succ, List.getElem_cons_zero, List.setIfInBounds_toArray, List.set_cons_zero, List.set_cons_succ]
    refine wpAnyH_take (i := 4) (v := ?_) rfl (by kernel_rfl) (by kernel_rfl) (by kernel_rfl) (fun _ _ _ h => h) (Or.inl ⟨by kernel_rfl, ?_⟩) (by assumption) ?_
    rotate_left
    · (intro w hSw; (try dsimp only at hSw); (try obtain ⟨⟨c0, c1, c2, c3, c4, c5, c6, c7, c8, c9, c10, c11⟩, hT, hB⟩ := hSw); go_simp); (try with_reducible rfl)
    try simp only [Act.put, List.getElem_toArray, List.getElem_cons_succ, List.getElem_cons_zero, List.setIfInBounds_toArray, List.set_cons_zero, List.set_cons_succ]
    refine wpAnyH_ready (rs := [3]) (by kernel_rfl) (by simp) ?_
    refine AllReadyH.cons rfl (fun K hK => ?_) ?_
    rotate_left
    · exact AllReadyH.nil
    go_simp
    have hHn := hHeld
    obtain ⟨⟨c0, c1, c2, c3, c4, c5, c6, c7, c8, c9, c10, c11⟩, hT, hB⟩ := hHn
    refine (HC.out _ ((HL.out _ _ _ _).below (Below.refl _ _).drew (Nat.le_refl _))).mono ?_
    rintro e wN ⟨rfl, hBN⟩
    clear c0 c1 c2 c3 c4 c5 c6 c7 c8 c9 c10 c11 hT hB
    refine hK.out _ _ ?_ (fun hHeld => ?_)
    · (try dsimp only); obtain ⟨⟨c0, c1, c2, c3, c4, c5, c6, c7, c8, c9, c10, c11⟩, hT, hB⟩ := hHeld; exact ⟨⟨cell_keep hBN c0, cell_keep hBN c1, cell_keep hBN c2, cell_keep hBN c3, cell_keep hBN c4, cell_keep hBN c5, cell_keep hBN c6, cell_keep hBN c7, cell_keep hBN c8, cell_keep hBN c9, cell_keep hBN c10, cell_keep hBN c11⟩, (hT.elim fun v0 h => h.elim fun v1 h => ⟨v0, v1, h.beside hBN⟩), hB.trans (hBN.mono hB.size)⟩
    clear hK K
    try simp only [Act.put, List.getElem_toArray, List.getElem_cons_succ, List.getElem_cons_zero, List.setIfInBounds_toArray, List.set_cons_zero, List.set_cons_succ]
    refine wpAnyH_take (i := 5) (v := ?_) rfl (by kernel_rfl) (by kernel_rfl) (by kernel_rfl) (fun _ _ _ h => h) (Or.inl ⟨by kernel_rfl, ?_⟩) (by assumption) ?_
    rotate_left
    · (intro w hSw; (try dsimp only at hSw); (try obtain ⟨⟨c0, c1, c2, c3, c4, c5, c6, c7, c8, c9, c10, c11⟩, hT, hB⟩ := hSw); go_simp); (try with_reducible rfl)
    try simp only [Act.put, List.getElem_toArray, List.getElem_cons_succ, List.getElem_cons_zero, List.setIfInBounds_toArray, List.set_cons_zero, List.set_cons_succ]
    refine wpAnyH_ready (rs := [6]) (by kernel_rfl) (by simp) ?_
    refine AllReadyH.cons rfl (fun K hK => ?_) ?_
    rotate_left
    · exact AllReadyH.nil
    have hHn := hHeld
    obtain ⟨⟨c0, c1, c2, c3, c4, c5, c6, c7, c8, c9, c10, c11⟩, hT, hB⟩ := hHn
    obtain ⟨v0, v1, hT⟩ := hT
    have hS := hT.s (.bool s1) (.int .i64 s2)
    have hB3 := Below.set2 hB (b := w.heap.size + 1 + 1 + 1) (by omega) (.bool s1) (.int .i64 s2)
    have f0 := hT.fz 0
    have f1 := hT.fz 1
    have g0 := hT.c0
    have g1 := hT.c1
    go_simp
    refine hK.out _ _ ?_ (fun hHeld => ?_)
    · (try dsimp only); exact ⟨⟨cell_set2 c0 (by omega), cell_set2 c1 (by omega), cell_set2 c2 (by omega), cell_set2 c3 (by omega), cell_set2 c4 (by omega), cell_set2 c5 (by omega), cell_set2 c6 (by omega), cell_set2 c7 (by omega), cell_set2 c8 (by omega), cell_set2 c9 (by omega), cell_set2 c10 (by omega), cell_set2 c11 (by omega)⟩, ⟨_, _, hS⟩, hB3⟩
    clear hK K
    try simp only [Act.put, List.getElem_toArray, List.getElem_cons_succ, List.getElem_cons_zero, List.setIfInBounds_toArray, List.set_cons_zero, List.set_cons_succ]
    refine wpAnyH_done (by kernel_rfl) ?_ _
    refine NoPanic.normal ?_
    go_wp2
    refine bodyPost_ret (v := .tuple #[.bool X, .agg #[.bool s1, .int .i64 s2]]) (by simp [results, Tryz.results25, go_sem, hS.c0, hS.c1]) rfl ⟨rfl, hB3⟩
  · rw [if_neg h]
    have t0 : (bk == 0) = false := by simpa using h
    clear h
    cases s1
    · clear e3
      simp only [Bool.false_eq_true, if_false]
      by_cases h : (ak = 1 ∧ an = 0) ∧ N = 1
      · rw [if_pos h]
        obtain ⟨⟨rfl, rfl⟩, h1⟩ := h
        have h1' : (N == 1) = true := by rw [beq_iff_eq]; exact h1
        have h1p : 0 < N := by omega
        clear h1
        by_cases k1 : bk = 1
        · subst k1
          by_cases c : 0 < N
          · have c' : decide (0 < N) = true := by simp [c]
            rw [show goE 1 (0) N X Y = (X, false, 0) from if_pos ⟨rfl, c⟩]
            go_enter Tryz.func25, Tryz.ntmps25
            go_wp2_with fail
            refine (HC.out _ (HL.out _ _ _ _)).mono ?_
            rintro e wN ⟨rfl, hB⟩
            have hT := (Two.new4 w (.cells #[.int .i64 1, .int .i64 0, .int .i64 am, .int .i64 1, .int .i64 bn, .int .i64 bm, .bool nt] 33) (.cells #[.bool true, .int .i64 0] 45) (.cells #[.int .i64 N, .bool L, .slice p ln cap] 53) 45 (.bool false) (.int .i64 0)).beside hB
            have hU := (two2 w (.cells #[.int .i64 1, .int .i64 0, .int .i64 am, .int .i64 1, .int .i64 bn, .int .i64 bm, .bool nt] 33) (.cells #[.int .i64 N, .bool L, .slice p ln cap] 53) (.cells #[.bool false, .int .i64 0] 45) 45 (.bool true) (.int .i64 0)).beside hB
            have hB2 := (HB4.out (.cells #[.int .i64 1, .int .i64 0, .int .i64 am, .int .i64 1, .int .i64 bn, .int .i64 bm, .bool nt] 33) (.cells #[.bool true, .int .i64 0] 45) (.cells #[.int .i64 N, .bool L, .slice p ln cap] 53) (.cells #[.bool false, .int .i64 0] 45)).trans (hB.mono (HB4.out (.cells #[.int .i64 1, .int .i64 0, .int .i64 am, .int .i64 1, .int .i64 bn, .int .i64 bm, .bool nt] 33) (.cells #[.bool true, .int .i64 0] 45) (.cells #[.int .i64 N, .bool L, .slice p ln cap] 53) (.cells #[.bool false, .int .i64 0] 45)).size)
            have hS := Lib.hid (hT.s (.bool false) (.int .i64 0))
            have hB3 := Lib.hid (Below.set2 hB2 (b := w.heap.size + 1 + 1 + 1) (by omega) (.bool false) (.int .i64 0))
            have c0 := hT.c0
            have c1 := hT.c1
            have f0 := hT.fz 0
            have f1 := hT.fz 1
            have d0 := hU.c0
            have d1 := hU.c1
            have g0 := hU.fz 0
            have g1 := hU.fz 1
            clear hB hB2 hT hU
            go_wp2
            refine bodyPost_ret (v := .tuple #[.bool X, .agg #[.bool false, .int .i64 0]]) (by simp [results, Tryz.results25, go_sem, hS.out.c0, hS.out.c1]) rfl ⟨rfl, hB3.out⟩
          · exact absurd h1p c
        · have t1 : (bk == 1) = false := by simpa using k1
          by_cases k2 : bk = 2
          · subst k2
            have hY := hYL rfl
            subst hY
            have e1 : goE 2 (0) N X Y = if Y = true then (true, false, 0) else (true, true, 0) := goE_2
            rw [e1]
            cases Y
            · rw [if_neg (by simp)]
              go_enter Tryz.func25, Tryz.ntmps25
              go_wp2_with fail
              go_region
              all_goals go_wp2
              all_goals refine bodyPost_ret (v := .tuple #[.bool true, .agg #[.bool true, .int .i64 0]]) (by simp [results, Tryz.results25, go_sem]) rfl ⟨rfl, ?_⟩
              all_goals first | exact HB4.out _ _ _ _ | exact (HB4.out _ _ _ _).drew | exact ((HB4.out _ _ _ _).drew).drew
            · rw [if_pos rfl]
              go_enter Tryz.func25, Tryz.ntmps25
              go_wp2_with fail
              go_region
              all_goals go_wp2
              all_goals refine bodyPost_ret (v := .tuple #[.bool true, .agg #[.bool false, .int .i64 0]]) (by simp [results, Tryz.results25, go_sem]) rfl ⟨rfl, ?_⟩
              all_goals first | exact HB4.out _ _ _ _ | exact (HB4.out _ _ _ _).drew | exact ((HB4.out _ _ _ _).drew).drew
          · have t2 : (bk == 2) = false := by simpa using k2
            by_cases k4 : bk = 4
            · subst k4
              have e1 : goE 4 (0) N X Y = if Y = true then (true, false, 0) else (true, true, 0) := goE_4
              rw [e1]
              cases Y
              · rw [if_neg (by simp)]
                go_enter Tryz.func25, Tryz.ntmps25
                go_wp2_with fail
                refine (HD.out _ (HL.out _ _ _ _)).mono ?_
                rintro e wN ⟨rfl, hB⟩
                have hT := (Two.new4 w (.cells #[.int .i64 1, .int .i64 0, .int .i64 am, .int .i64 4, .int .i64 bn, .int .i64 bm, .bool nt] 33) (.cells #[.bool true, .int .i64 0] 45) (.cells #[.int .i64 N, .bool L, .slice p ln cap] 53) 45 (.bool false) (.int .i64 0)).beside hB
                have hU := (two2 w (.cells #[.int .i64 1, .int .i64 0, .int .i64 am, .int .i64 4, .int .i64 bn, .int .i64 bm, .bool nt] 33) (.cells #[.int .i64 N, .bool L, .slice p ln cap] 53) (.cells #[.bool false, .int .i64 0] 45) 45 (.bool true) (.int .i64 0)).beside hB
                have hB2 := (HB4.out (.cells #[.int .i64 1, .int .i64 0, .int .i64 am, .int .i64 4, .int .i64 bn, .int .i64 bm, .bool nt] 33) (.cells #[.bool true, .int .i64 0] 45) (.cells #[.int .i64 N, .bool L, .slice p ln cap] 53) (.cells #[.bool false, .int .i64 0] 45)).trans (hB.mono (HB4.out (.cells #[.int .i64 1, .int .i64 0, .int .i64 am, .int .i64 4, .int .i64 bn, .int .i64 bm, .bool nt] 33) (.cells #[.bool true, .int .i64 0] 45) (.cells #[.int .i64 N, .bool L, .slice p ln cap] 53) (.cells #[.bool false, .int .i64 0] 45)).size)
                have hS := Lib.hid (hT.s (.bool true) (.int .i64 0))
                have hB3 := Lib.hid (Below.set2 hB2 (b := w.heap.size + 1 + 1 + 1) (by omega) (.bool true) (.int .i64 0))
                have c0 := hT.c0
                have c1 := hT.c1
                have f0 := hT.fz 0
                have f1 := hT.fz 1
                have d0 := hU.c0
                have d1 := hU.c1
                have g0 := hU.fz 0
                have g1 := hU.fz 1
                clear hB hB2 hT hU
                go_wp2_with fail
                go_region
                all_goals go_wp2
                all_goals exact bodyPost_ret (v := .tuple #[.bool true, .agg #[.bool true, .int .i64 0]]) (by simp [results, Tryz.results25, go_sem, hS.out.c0, hS.out.c1]) rfl ⟨rfl, hB3.out.drew⟩
              · rw [if_pos rfl]
                go_enter Tryz.func25, Tryz.ntmps25
                go_wp2_with fail
                refine (HD.out _ (HL.out _ _ _ _)).mono ?_
                rintro e wN ⟨rfl, hB⟩
                have hT := (Two.new4 w (.cells #[.int .i64 1, .int .i64 0, .int .i64 am, .int .i64 4, .int .i64 bn, .int .i64 bm, .bool nt] 33) (.cells #[.bool true, .int .i64 0] 45) (.cells #[.int .i64 N, .bool L, .slice p ln cap] 53) 45 (.bool false) (.int .i64 0)).beside hB
                have hU := (two2 w (.cells #[.int .i64 1, .int .i64 0, .int .i64 am, .int .i64 4, .int .i64 bn, .int .i64 bm, .bool nt] 33) (.cells #[.int .i64 N, .bool L, .slice p ln cap] 53) (.cells #[.bool false, .int .i64 0] 45) 45 (.bool true) (.int .i64 0)).beside hB
                have hB2 := (HB4.out (.cells #[.int .i64 1, .int .i64 0, .int .i64 am, .int .i64 4, .int .i64 bn, .int .i64 bm, .bool nt] 33) (.cells #[.bool true, .int .i64 0] 45) (.cells #[.int .i64 N, .bool L, .slice p ln cap] 53) (.cells #[.bool false, .int .i64 0] 45)).trans (hB.mono (HB4.out (.cells #[.int .i64 1, .int .i64 0, .int .i64 am, .int .i64 4, .int .i64 bn, .int .i64 bm, .bool nt] 33) (.cells #[.bool true, .int .i64 0] 45) (.cells #[.int .i64 N, .bool L, .slice p ln cap] 53) (.cells #[.bool false, .int .i64 0] 45)).size)
                have hT4 := (hT.other (p := ⟨w.heap.size + 1, 0, none⟩) (by show _ ≠ w.heap.size + 1; omega) (.bool false)).other (p := ⟨w.heap.size + 1, 1, none⟩) (by show _ ≠ w.heap.size + 1; omega) (.int .i64 0)
                have hS := Lib.hid (hT4.s (.bool false) (.int .i64 0))
                have hB3 := Lib.hid (Below.set2 (Below.set2 hB2 (b := w.heap.size + 1) (by omega) (.bool false) (.int .i64 0)) (b := w.heap.size + 1 + 1 + 1) (by omega) (.bool false) (.int .i64 0))
                have c0 := hT.c0
                have c1 := hT.c1
                have f0 := hT.fz 0
                have f1 := hT.fz 1
                have d0 := hU.c0
                have d1 := hU.c1
                have g0 := hU.fz 0
                have g1 := hU.fz 1
                clear hB hB2 hT hU hT4
                go_wp2_with fail
                go_region
                all_goals go_wp2
                all_goals exact bodyPost_ret (v := .tuple #[.bool true, .agg #[.bool false, .int .i64 0]]) (by simp [results, Tryz.results25, go_sem, hS.out.c0, hS.out.c1]) rfl ⟨rfl, hB3.out.drew⟩
            · have t4 : (bk == 4) = false := by simpa using k4
              have e1 : goE bk (0) N X Y = if decide (0 ≤ N) = true then (true, false, 0) else (true, true, 0) := goE_o k1 k2 k4
              rw [e1]
              by_cases c : 0 ≤ N
              · have c' : decide (0 ≤ N) = true := by simp [c]
                rw [if_pos c']
                go_enter Tryz.func25, Tryz.ntmps25
                go_wp2_with fail
                go_region
                all_goals go_wp2
                all_goals refine bodyPost_ret (v := .tuple #[.bool true, .agg #[.bool false, .int .i64 0]]) (by simp [results, Tryz.results25, go_sem]) rfl ⟨rfl, ?_⟩
                all_goals first | exact HB4.out _ _ _ _ | exact (HB4.out _ _ _ _).drew | exact ((HB4.out _ _ _ _).drew).drew
              · exact absurd (by omega) c
      · rw [if_neg h]
        have HT : (ak == 1) = false ∨ (ak = 1 ∧ (an == 0) = false) ∨ (ak = 1 ∧ an = 0 ∧ (N == 1) = false) := by
          by_cases h1 : ak = 1
          · by_cases h2 : an = 0
            · exact Or.inr (Or.inr ⟨h1, h2, by rw [beq_eq_false_iff_ne]; exact fun h3 => h ⟨⟨h1, h2⟩, h3⟩⟩)
            · exact Or.inr (Or.inl ⟨h1, by simpa using h2⟩)
          · exact Or.inl (by simpa using h1)
        clear h
        rcases HT with u1 | ⟨rfl, u2⟩ | ⟨rfl, rfl, u3⟩
        · cases X
          · simp only [Bool.false_eq_true, if_false]
            go_enter Tryz.func25, Tryz.ntmps25
            go_wp2_with fail
            refine (HC.out _ (HL.out _ _ _ _)).mono ?_
            rintro e wN ⟨rfl, hB⟩
            have hT := (Two.new4 w (.cells #[.int .i64 ak, .int .i64 an, .int .i64 am, .int .i64 bk, .int .i64 bn, .int .i64 bm, .bool nt] 33) (.cells #[.bool false, .int .i64 s2] 45) (.cells #[.int .i64 N, .bool L, .slice p ln cap] 53) 45 (.bool false) (.int .i64 0)).beside hB
            have hU := (two2 w (.cells #[.int .i64 ak, .int .i64 an, .int .i64 am, .int .i64 bk, .int .i64 bn, .int .i64 bm, .bool nt] 33) (.cells #[.int .i64 N, .bool L, .slice p ln cap] 53) (.cells #[.bool false, .int .i64 0] 45) 45 (.bool false) (.int .i64 s2)).beside hB
            have hB2 := (HB4.out (.cells #[.int .i64 ak, .int .i64 an, .int .i64 am, .int .i64 bk, .int .i64 bn, .int .i64 bm, .bool nt] 33) (.cells #[.bool false, .int .i64 s2] 45) (.cells #[.int .i64 N, .bool L, .slice p ln cap] 53) (.cells #[.bool false, .int .i64 0] 45)).trans (hB.mono (HB4.out (.cells #[.int .i64 ak, .int .i64 an, .int .i64 am, .int .i64 bk, .int .i64 bn, .int .i64 bm, .bool nt] 33) (.cells #[.bool false, .int .i64 s2] 45) (.cells #[.int .i64 N, .bool L, .slice p ln cap] 53) (.cells #[.bool false, .int .i64 0] 45)).size)
            have hS := Lib.hid (hT.s (.bool false) (.int .i64 s2))
            have hB3 := Lib.hid (Below.set2 hB2 (b := w.heap.size + 1 + 1 + 1) (by omega) (.bool false) (.int .i64 s2))
            have c0 := hT.c0
            have c1 := hT.c1
            have f0 := hT.fz 0
            have f1 := hT.fz 1
            have d0 := hU.c0
            have d1 := hU.c1
            have g0 := hU.fz 0
            have g1 := hU.fz 1
            clear hB hB2 hT hU
            go_wp2_with fail
            go_region
            all_goals go_wp2
            all_goals exact bodyPost_ret (v := .tuple #[.bool false, .agg #[.bool false, .int .i64 s2]]) (by simp [results, Tryz.results25, go_sem, hS.out.c0, hS.out.c1]) rfl ⟨rfl, hB3.out.drew⟩
          · simp only [if_true]
            go_enter Tryz.func25, Tryz.ntmps25
            go_wp2_with fail
            refine (HC.out _ (HL.out _ _ _ _)).mono ?_
            rintro e wM ⟨rfl, hM⟩
            have z0 := cell_keep hM (show World.cell? _ ⟨w.heap.size, 0, none⟩ = some (.int .i64 ak) by simp [go_sem])
            have z1 := cell_keep hM (show World.cell? _ ⟨w.heap.size, 1, none⟩ = some (.int .i64 an) by simp [go_sem])
            have z2 := cell_keep hM (show World.cell? _ ⟨w.heap.size, 2, none⟩ = some (.int .i64 am) by simp [go_sem])
            have z3 := cell_keep hM (show World.cell? _ ⟨w.heap.size, 3, none⟩ = some (.int .i64 bk) by simp [go_sem])
            have z4 := cell_keep hM (show World.cell? _ ⟨w.heap.size, 4, none⟩ = some (.int .i64 bn) by simp [go_sem])
            have z5 := cell_keep hM (show World.cell? _ ⟨w.heap.size, 5, none⟩ = some (.int .i64 bm) by simp [go_sem])
            have z6 := cell_keep hM (show World.cell? _ ⟨w.heap.size, 6, none⟩ = some (.bool nt) by simp [go_sem])
            have z7 := cell_keep hM (show World.cell? _ ⟨(w.heap.size + 1), 0, none⟩ = some (.bool false) by simp [go_sem])
            have z8 := cell_keep hM (show World.cell? _ ⟨(w.heap.size + 1), 1, none⟩ = some (.int .i64 s2) by simp [go_sem])
            have z9 := cell_keep hM (show World.cell? _ ⟨(w.heap.size + 1 + 1), 0, none⟩ = some (.int .i64 N) by simp [go_sem])
            have z10 := cell_keep hM (show World.cell? _ ⟨(w.heap.size + 1 + 1), 1, none⟩ = some (.bool L) by simp [go_sem])
            have z11 := cell_keep hM (show World.cell? _ ⟨(w.heap.size + 1 + 1), 2, none⟩ = some (.slice p ln cap) by simp [go_sem])
            have HM := Lib.hid (And.intro ((HB4.out (.cells #[.int .i64 ak, .int .i64 an, .int .i64 am, .int .i64 bk, .int .i64 bn, .int .i64 bm, .bool nt] 33) (.cells #[.bool false, .int .i64 s2] 45) (.cells #[.int .i64 N, .bool L, .slice p ln cap] 53) (.cells #[.bool false, .int .i64 0] 45)).trans (hM.mono (HB4.out (.cells #[.int .i64 ak, .int .i64 an, .int .i64 am, .int .i64 bk, .int .i64 bn, .int .i64 bm, .bool nt] 33) (.cells #[.bool false, .int .i64 s2] 45) (.cells #[.int .i64 N, .bool L, .slice p ln cap] 53) (.cells #[.bool false, .int .i64 0] 45)).size)) ((Two.new4 w (.cells #[.int .i64 ak, .int .i64 an, .int .i64 am, .int .i64 bk, .int .i64 bn, .int .i64 bm, .bool nt] 33) (.cells #[.bool false, .int .i64 s2] 45) (.cells #[.int .i64 N, .bool L, .slice p ln cap] 53) 45 (.bool false) (.int .i64 0)).beside hM))
            clear hM
            go_wp2_with fail
            refine (HE.out _).mono ?_
            rintro e wN ⟨rfl, hB⟩
            have hT := HM.out.2.beside hB
            have hB2 := HM.out.1.trans (hB.mono HM.out.1.size)
            have hS := Lib.hid (hT.s (.bool ba) (.int .i64 bb))
            have hB3 := Lib.hid (Below.set2 hB2 (b := w.heap.size + 1 + 1 + 1) (by omega) (.bool ba) (.int .i64 bb))
            have c0 := hT.c0
            have c1 := hT.c1
            have f0 := hT.fz 0
            have f1 := hT.fz 1
            clear hB hB2 hT
            go_wp2
            refine bodyPost_ret (v := .tuple #[.bool true, .agg #[.bool ba, .int .i64 bb]]) (by simp [results, Tryz.results25, go_sem, hS.out.c0, hS.out.c1]) rfl ⟨rfl, hB3.out⟩
        · cases X
          · simp only [Bool.false_eq_true, if_false]
            go_enter Tryz.func25, Tryz.ntmps25
            go_wp2_with fail
            refine (HC.out _ (HL.out _ _ _ _)).mono ?_
            rintro e wN ⟨rfl, hB⟩
            have hT := (Two.new4 w (.cells #[.int .i64 1, .int .i64 an, .int .i64 am, .int .i64 bk, .int .i64 bn, .int .i64 bm, .bool nt] 33) (.cells #[.bool false, .int .i64 s2] 45) (.cells #[.int .i64 N, .bool L, .slice p ln cap] 53) 45 (.bool false) (.int .i64 0)).beside hB
            have hU := (two2 w (.cells #[.int .i64 1, .int .i64 an, .int .i64 am, .int .i64 bk, .int .i64 bn, .int .i64 bm, .bool nt] 33) (.cells #[.int .i64 N, .bool L, .slice p ln cap] 53) (.cells #[.bool false, .int .i64 0] 45) 45 (.bool false) (.int .i64 s2)).beside hB
            have hB2 := (HB4.out (.cells #[.int .i64 1, .int .i64 an, .int .i64 am, .int .i64 bk, .int .i64 bn, .int .i64 bm, .bool nt] 33) (.cells #[.bool false, .int .i64 s2] 45) (.cells #[.int .i64 N, .bool L, .slice p ln cap] 53) (.cells #[.bool false, .int .i64 0] 45)).trans (hB.mono (HB4.out (.cells #[.int .i64 1, .int .i64 an, .int .i64 am, .int .i64 bk, .int .i64 bn, .int .i64 bm, .bool nt] 33) (.cells #[.bool false, .int .i64 s2] 45) (.cells #[.int .i64 N, .bool L, .slice p ln cap] 53) (.cells #[.bool false, .int .i64 0] 45)).size)
            have hS := Lib.hid (hT.s (.bool false) (.int .i64 s2))
            have hB3 := Lib.hid (Below.set2 hB2 (b := w.heap.size + 1 + 1 + 1) (by omega) (.bool false) (.int .i64 s2))
            have c0 := hT.c0
            have c1 := hT.c1
            have f0 := hT.fz 0
            have f1 := hT.fz 1
            have d0 := hU.c0
            have d1 := hU.c1
            have g0 := hU.fz 0
            have g1 := hU.fz 1
            clear hB hB2 hT hU
            go_wp2_with fail
            go_region
            all_goals go_wp2
            all_goals exact bodyPost_ret (v := .tuple #[.bool false, .agg #[.bool false, .int .i64 s2]]) (by simp [results, Tryz.results25, go_sem, hS.out.c0, hS.out.c1]) rfl ⟨rfl, hB3.out.drew⟩
          · simp only [if_true]
            go_enter Tryz.func25, Tryz.ntmps25
            go_wp2_with fail
            refine (HC.out _ (HL.out _ _ _ _)).mono ?_
            rintro e wM ⟨rfl, hM⟩
            have z0 := cell_keep hM (show World.cell? _ ⟨w.heap.size, 0, none⟩ = some (.int .i64 1) by simp [go_sem])
            have z1 := cell_keep hM (show World.cell? _ ⟨w.heap.size, 1, none⟩ = some (.int .i64 an) by simp [go_sem])
            have z2 := cell_keep hM (show World.cell? _ ⟨w.heap.size, 2, none⟩ = some (.int .i64 am) by simp [go_sem])
            have z3 := cell_keep hM (show World.cell? _ ⟨w.heap.size, 3, none⟩ = some (.int .i64 bk) by simp [go_sem])
            have z4 := cell_keep hM (show World.cell? _ ⟨w.heap.size, 4, none⟩ = some (.int .i64 bn) by simp [go_sem])
            have z5 := cell_keep hM (show World.cell? _ ⟨w.heap.size, 5, none⟩ = some (.int .i64 bm) by simp [go_sem])
            have z6 := cell_keep hM (show World.cell? _ ⟨w.heap.size, 6, none⟩ = some (.bool nt) by simp [go_sem])
            have z7 := cell_keep hM (show World.cell? _ ⟨(w.heap.size + 1), 0, none⟩ = some (.bool false) by simp [go_sem])
            have z8 := cell_keep hM (show World.cell? _ ⟨(w.heap.size + 1), 1, none⟩ = some (.int .i64 s2) by simp [go_sem])
            have z9 := cell_keep hM (show World.cell? _ ⟨(w.heap.size + 1 + 1), 0, none⟩ = some (.int .i64 N) by simp [go_sem])
            have z10 := cell_keep hM (show World.cell? _ ⟨(w.heap.size + 1 + 1), 1, none⟩ = some (.bool L) by simp [go_sem])
            have z11 := cell_keep hM (show World.cell? _ ⟨(w.heap.size + 1 + 1), 2, none⟩ = some (.slice p ln cap) by simp [go_sem])
            have HM := Lib.hid (And.intro ((HB4.out (.cells #[.int .i64 1, .int .i64 an, .int .i64 am, .int .i64 bk, .int .i64 bn, .int .i64 bm, .bool nt] 33) (.cells #[.bool false, .int .i64 s2] 45) (.cells #[.int .i64 N, .bool L, .slice p ln cap] 53) (.cells #[.bool false, .int .i64 0] 45)).trans (hM.mono (HB4.out (.cells #[.int .i64 1, .int .i64 an, .int .i64 am, .int .i64 bk, .int .i64 bn, .int .i64 bm, .bool nt] 33) (.cells #[.bool false, .int .i64 s2] 45) (.cells #[.int .i64 N, .bool L, .slice p ln cap] 53) (.cells #[.bool false, .int .i64 0] 45)).size)) ((Two.new4 w (.cells #[.int .i64 1, .int .i64 an, .int .i64 am, .int .i64 bk, .int .i64 bn, .int .i64 bm, .bool nt] 33) (.cells #[.bool false, .int .i64 s2] 45) (.cells #[.int .i64 N, .bool L, .slice p ln cap] 53) 45 (.bool false) (.int .i64 0)).beside hM))
            clear hM
            go_wp2_with fail
            refine (HE.out _).mono ?_
            rintro e wN ⟨rfl, hB⟩
            have hT := HM.out.2.beside hB
            have hB2 := HM.out.1.trans (hB.mono HM.out.1.size)
            have hS := Lib.hid (hT.s (.bool ba) (.int .i64 bb))
            have hB3 := Lib.hid (Below.set2 hB2 (b := w.heap.size + 1 + 1 + 1) (by omega) (.bool ba) (.int .i64 bb))
            have c0 := hT.c0
            have c1 := hT.c1
            have f0 := hT.fz 0
            have f1 := hT.fz 1
            clear hB hB2 hT
            go_wp2
            refine bodyPost_ret (v := .tuple #[.bool true, .agg #[.bool ba, .int .i64 bb]]) (by simp [results, Tryz.results25, go_sem, hS.out.c0, hS.out.c1]) rfl ⟨rfl, hB3.out⟩
        · cases X
          · simp only [Bool.false_eq_true, if_false]
            go_enter Tryz.func25, Tryz.ntmps25
            go_wp2_with fail
            refine (HC.out _ (HL.out _ _ _ _)).mono ?_
            rintro e wN ⟨rfl, hB⟩
            have hT := (Two.new4 w (.cells #[.int .i64 1, .int .i64 0, .int .i64 am, .int .i64 bk, .int .i64 bn, .int .i64 bm, .bool nt] 33) (.cells #[.bool false, .int .i64 s2] 45) (.cells #[.int .i64 N, .bool L, .slice p ln cap] 53) 45 (.bool false) (.int .i64 0)).beside hB
            have hU := (two2 w (.cells #[.int .i64 1, .int .i64 0, .int .i64 am, .int .i64 bk, .int .i64 bn, .int .i64 bm, .bool nt] 33) (.cells #[.int .i64 N, .bool L, .slice p ln cap] 53) (.cells #[.bool false, .int .i64 0] 45) 45 (.bool false) (.int .i64 s2)).beside hB
            have hB2 := (HB4.out (.cells #[.int .i64 1, .int .i64 0, .int .i64 am, .int .i64 bk, .int .i64 bn, .int .i64 bm, .bool nt] 33) (.cells #[.bool false, .int .i64 s2] 45) (.cells #[.int .i64 N, .bool L, .slice p ln cap] 53) (.cells #[.bool false, .int .i64 0] 45)).trans (hB.mono (HB4.out (.cells #[.int .i64 1, .int .i64 0, .int .i64 am, .int .i64 bk, .int .i64 bn, .int .i64 bm, .bool nt] 33) (.cells #[.bool false, .int .i64 s2] 45) (.cells #[.int .i64 N, .bool L, .slice p ln cap] 53) (.cells #[.bool false, .int .i64 0] 45)).size)
            have hS := Lib.hid (hT.s (.bool false) (.int .i64 s2))
            have hB3 := Lib.hid (Below.set2 hB2 (b := w.heap.size + 1 + 1 + 1) (by omega) (.bool false) (.int .i64 s2))
            have c0 := hT.c0
            have c1 := hT.c1
            have f0 := hT.fz 0
            have f1 := hT.fz 1
            have d0 := hU.c0
            have d1 := hU.c1
            have g0 := hU.fz 0
            have g1 := hU.fz 1
            clear hB hB2 hT hU
            go_wp2_with fail
            go_region
            all_goals go_wp2
            all_goals exact bodyPost_ret (v := .tuple #[.bool false, .agg #[.bool false, .int .i64 s2]]) (by simp [results, Tryz.results25, go_sem, hS.out.c0, hS.out.c1]) rfl ⟨rfl, hB3.out.drew⟩
          · simp only [if_true]
            go_enter Tryz.func25, Tryz.ntmps25
            go_wp2_with fail
            refine (HC.out _ (HL.out _ _ _ _)).mono ?_
            rintro e wM ⟨rfl, hM⟩
            have z0 := cell_keep hM (show World.cell? _ ⟨w.heap.size, 0, none⟩ = some (.int .i64 1) by simp [go_sem])
            have z1 := cell_keep hM (show World.cell? _ ⟨w.heap.size, 1, none⟩ = some (.int .i64 0) by simp [go_sem])
            have z2 := cell_keep hM (show World.cell? _ ⟨w.heap.size, 2, none⟩ = some (.int .i64 am) by simp [go_sem])
            have z3 := cell_keep hM (show World.cell? _ ⟨w.heap.size, 3, none⟩ = some (.int .i64 bk) by simp [go_sem])
            have z4 := cell_keep hM (show World.cell? _ ⟨w.heap.size, 4, none⟩ = some (.int .i64 bn) by simp [go_sem])
            have z5 := cell_keep hM (show World.cell? _ ⟨w.heap.size, 5, none⟩ = some (.int .i64 bm) by simp [go_sem])
            have z6 := cell_keep hM (show World.cell? _ ⟨w.heap.size, 6, none⟩ = some (.bool nt) by simp [go_sem])
            have z7 := cell_keep hM (show World.cell? _ ⟨(w.heap.size + 1), 0, none⟩ = some (.bool false) by simp [go_sem])
            have z8 := cell_keep hM (show World.cell? _ ⟨(w.heap.size + 1), 1, none⟩ = some (.int .i64 s2) by simp [go_sem])
            have z9 := cell_keep hM (show World.cell? _ ⟨(w.heap.size + 1 + 1), 0, none⟩ = some (.int .i64 N) by simp [go_sem])
            have z10 := cell_keep hM (show World.cell? _ ⟨(w.heap.size + 1 + 1), 1, none⟩ = some (.bool L) by simp [go_sem])
            have z11 := cell_keep hM (show World.cell? _ ⟨(w.heap.size + 1 + 1), 2, none⟩ = some (.slice p ln cap) by simp [go_sem])
            have HM := Lib.hid (And.intro ((HB4.out (.cells #[.int .i64 1, .int .i64 0, .int .i64 am, .int .i64 bk, .int .i64 bn, .int .i64 bm, .bool nt] 33) (.cells #[.bool false, .int .i64 s2] 45) (.cells #[.int .i64 N, .bool L, .slice p ln cap] 53) (.cells #[.bool false, .int .i64 0] 45)).trans (hM.mono (HB4.out (.cells #[.int .i64 1, .int .i64 0, .int .i64 am, .int .i64 bk, .int .i64 bn, .int .i64 bm, .bool nt] 33) (.cells #[.bool false, .int .i64 s2] 45) (.cells #[.int .i64 N, .bool L, .slice p ln cap] 53) (.cells #[.bool false, .int .i64 0] 45)).size)) ((Two.new4 w (.cells #[.int .i64 1, .int .i64 0, .int .i64 am, .int .i64 bk, .int .i64 bn, .int .i64 bm, .bool nt] 33) (.cells #[.bool false, .int .i64 s2] 45) (.cells #[.int .i64 N, .bool L, .slice p ln cap] 53) 45 (.bool false) (.int .i64 0)).beside hM))
            clear hM
            go_wp2_with fail
            refine (HE.out _).mono ?_
            rintro e wN ⟨rfl, hB⟩
            have hT := HM.out.2.beside hB
            have hB2 := HM.out.1.trans (hB.mono HM.out.1.size)
            have hS := Lib.hid (hT.s (.bool ba) (.int .i64 bb))
            have hB3 := Lib.hid (Below.set2 hB2 (b := w.heap.size + 1 + 1 + 1) (by omega) (.bool ba) (.int .i64 bb))
            have c0 := hT.c0
            have c1 := hT.c1
            have f0 := hT.fz 0
            have f1 := hT.fz 1
            clear hB hB2 hT
            go_wp2
            refine bodyPost_ret (v := .tuple #[.bool true, .agg #[.bool ba, .int .i64 bb]]) (by simp [results, Tryz.results25, go_sem, hS.out.c0, hS.out.c1]) rfl ⟨rfl, hB3.out⟩
    · rw [e3 rfl]
      clear e3
      simp only [if_true]
      by_cases k1 : bk = 1
      · subst k1
        by_cases c : s2 < N
        · have c' : decide (s2 < N) = true := by simp [c]
          rw [show goE 1 (s2) N X Y = (X, false, 0) from if_pos ⟨rfl, c⟩]
          go_enter Tryz.func25, Tryz.ntmps25
          go_wp2_with fail
          refine (HC.out _ (HL.out _ _ _ _)).mono ?_
          rintro e wN ⟨rfl, hB⟩
          have hT := (Two.new4 w (.cells #[.int .i64 ak, .int .i64 an, .int .i64 am, .int .i64 1, .int .i64 bn, .int .i64 bm, .bool nt] 33) (.cells #[.bool true, .int .i64 s2] 45) (.cells #[.int .i64 N, .bool L, .slice p ln cap] 53) 45 (.bool false) (.int .i64 0)).beside hB
          have hU := (two2 w (.cells #[.int .i64 ak, .int .i64 an, .int .i64 am, .int .i64 1, .int .i64 bn, .int .i64 bm, .bool nt] 33) (.cells #[.int .i64 N, .bool L, .slice p ln cap] 53) (.cells #[.bool false, .int .i64 0] 45) 45 (.bool true) (.int .i64 s2)).beside hB
          have hB2 := (HB4.out (.cells #[.int .i64 ak, .int .i64 an, .int .i64 am, .int .i64 1, .int .i64 bn, .int .i64 bm, .bool nt] 33) (.cells #[.bool true, .int .i64 s2] 45) (.cells #[.int .i64 N, .bool L, .slice p ln cap] 53) (.cells #[.bool false, .int .i64 0] 45)).trans (hB.mono (HB4.out (.cells #[.int .i64 ak, .int .i64 an, .int .i64 am, .int .i64 1, .int .i64 bn, .int .i64 bm, .bool nt] 33) (.cells #[.bool true, .int .i64 s2] 45) (.cells #[.int .i64 N, .bool L, .slice p ln cap] 53) (.cells #[.bool false, .int .i64 0] 45)).size)
          have hS := Lib.hid (hT.s (.bool false) (.int .i64 0))
          have hB3 := Lib.hid (Below.set2 hB2 (b := w.heap.size + 1 + 1 + 1) (by omega) (.bool false) (.int .i64 0))
          have c0 := hT.c0
          have c1 := hT.c1
          have f0 := hT.fz 0
          have f1 := hT.fz 1
          have d0 := hU.c0
          have d1 := hU.c1
          have g0 := hU.fz 0
          have g1 := hU.fz 1
          clear hB hB2 hT hU
          go_wp2
          refine bodyPost_ret (v := .tuple #[.bool X, .agg #[.bool false, .int .i64 0]]) (by simp [results, Tryz.results25, go_sem, hS.out.c0, hS.out.c1]) rfl ⟨rfl, hB3.out⟩
        · have c' : decide (s2 < N) = false := by simp; omega
          have e1 : goE 1 (s2) N X Y = if decide (s2 ≤ N) = true then (true, false, 0) else (true, true, s2) := goE_1 c
          rw [e1]
          by_cases c2 : N = s2
          · have c3 : (N == s2) = true := by rw [beq_iff_eq]; exact c2
            rw [if_pos (by simp; omega)]
            go_enter Tryz.func25, Tryz.ntmps25
            go_wp2_with fail
            go_region
            all_goals go_wp2
            all_goals refine bodyPost_ret (v := .tuple #[.bool true, .agg #[.bool false, .int .i64 0]]) (by simp [results, Tryz.results25, go_sem]) rfl ⟨rfl, ?_⟩
            all_goals first | exact HB4.out _ _ _ _ | exact (HB4.out _ _ _ _).drew | exact ((HB4.out _ _ _ _).drew).drew
          · have c3 : (N == s2) = false := by rw [beq_eq_false_iff_ne]; exact c2
            rw [if_neg (by simp; omega)]
            go_enter Tryz.func25, Tryz.ntmps25
            go_wp2_with fail
            go_region
            all_goals go_wp2
            all_goals refine bodyPost_ret (v := .tuple #[.bool true, .agg #[.bool true, .int .i64 s2]]) (by simp [results, Tryz.results25, go_sem]) rfl ⟨rfl, ?_⟩
            all_goals first | exact HB4.out _ _ _ _ | exact (HB4.out _ _ _ _).drew | exact ((HB4.out _ _ _ _).drew).drew
      · have t1 : (bk == 1) = false := by simpa using k1
        by_cases k2 : bk = 2
        · subst k2
          have hY := hYL rfl
          subst hY
          have e1 : goE 2 (s2) N X Y = if Y = true then (true, false, 0) else (true, true, s2) := goE_2
          rw [e1]
          cases Y
          · rw [if_neg (by simp)]
            go_enter Tryz.func25, Tryz.ntmps25
            go_wp2_with fail
            go_region
            all_goals go_wp2
            all_goals refine bodyPost_ret (v := .tuple #[.bool true, .agg #[.bool true, .int .i64 s2]]) (by simp [results, Tryz.results25, go_sem]) rfl ⟨rfl, ?_⟩
            all_goals first | exact HB4.out _ _ _ _ | exact (HB4.out _ _ _ _).drew | exact ((HB4.out _ _ _ _).drew).drew
          · rw [if_pos rfl]
            go_enter Tryz.func25, Tryz.ntmps25
            go_wp2_with fail
            go_region
            all_goals go_wp2
            all_goals refine bodyPost_ret (v := .tuple #[.bool true, .agg #[.bool false, .int .i64 0]]) (by simp [results, Tryz.results25, go_sem]) rfl ⟨rfl, ?_⟩
            all_goals first | exact HB4.out _ _ _ _ | exact (HB4.out _ _ _ _).drew | exact ((HB4.out _ _ _ _).drew).drew
        · have t2 : (bk == 2) = false := by simpa using k2
          by_cases k4 : bk = 4
          · subst k4
            have e1 : goE 4 (s2) N X Y = if Y = true then (true, false, 0) else (true, true, s2) := goE_4
            rw [e1]
            cases Y
            · rw [if_neg (by simp)]
              go_enter Tryz.func25, Tryz.ntmps25
              go_wp2_with fail
              refine (HD.out _ (HL.out _ _ _ _)).mono ?_
              rintro e wN ⟨rfl, hB⟩
              have hT := (Two.new4 w (.cells #[.int .i64 ak, .int .i64 an, .int .i64 am, .int .i64 4, .int .i64 bn, .int .i64 bm, .bool nt] 33) (.cells #[.bool true, .int .i64 s2] 45) (.cells #[.int .i64 N, .bool L, .slice p ln cap] 53) 45 (.bool false) (.int .i64 0)).beside hB
              have hU := (two2 w (.cells #[.int .i64 ak, .int .i64 an, .int .i64 am, .int .i64 4, .int .i64 bn, .int .i64 bm, .bool nt] 33) (.cells #[.int .i64 N, .bool L, .slice p ln cap] 53) (.cells #[.bool false, .int .i64 0] 45) 45 (.bool true) (.int .i64 s2)).beside hB
              have hB2 := (HB4.out (.cells #[.int .i64 ak, .int .i64 an, .int .i64 am, .int .i64 4, .int .i64 bn, .int .i64 bm, .bool nt] 33) (.cells #[.bool true, .int .i64 s2] 45) (.cells #[.int .i64 N, .bool L, .slice p ln cap] 53) (.cells #[.bool false, .int .i64 0] 45)).trans (hB.mono (HB4.out (.cells #[.int .i64 ak, .int .i64 an, .int .i64 am, .int .i64 4, .int .i64 bn, .int .i64 bm, .bool nt] 33) (.cells #[.bool true, .int .i64 s2] 45) (.cells #[.int .i64 N, .bool L, .slice p ln cap] 53) (.cells #[.bool false, .int .i64 0] 45)).size)
              have hS := Lib.hid (hT.s (.bool true) (.int .i64 s2))
              have hB3 := Lib.hid (Below.set2 hB2 (b := w.heap.size + 1 + 1 + 1) (by omega) (.bool true) (.int .i64 s2))
              have c0 := hT.c0
              have c1 := hT.c1
              have f0 := hT.fz 0
              have f1 := hT.fz 1
              have d0 := hU.c0
              have d1 := hU.c1
              have g0 := hU.fz 0
              have g1 := hU.fz 1
              clear hB hB2 hT hU
              go_wp2_with fail
              go_region
              all_goals go_wp2
              all_goals exact bodyPost_ret (v := .tuple #[.bool true, .agg #[.bool true, .int .i64 s2]]) (by simp [results, Tryz.results25, go_sem, hS.out.c0, hS.out.c1]) rfl ⟨rfl, hB3.out.drew⟩
            · rw [if_pos rfl]
              go_enter Tryz.func25, Tryz.ntmps25
              go_wp2_with fail
              refine (HD.out _ (HL.out _ _ _ _)).mono ?_
              rintro e wN ⟨rfl, hB⟩
              have hT := (Two.new4 w (.cells #[.int .i64 ak, .int .i64 an, .int .i64 am, .int .i64 4, .int .i64 bn, .int .i64 bm, .bool nt] 33) (.cells #[.bool true, .int .i64 s2] 45) (.cells #[.int .i64 N, .bool L, .slice p ln cap] 53) 45 (.bool false) (.int .i64 0)).beside hB
              have hU := (two2 w (.cells #[.int .i64 ak, .int .i64 an, .int .i64 am, .int .i64 4, .int .i64 bn, .int .i64 bm, .bool nt] 33) (.cells #[.int .i64 N, .bool L, .slice p ln cap] 53) (.cells #[.bool false, .int .i64 0] 45) 45 (.bool true) (.int .i64 s2)).beside hB
              have hB2 := (HB4.out (.cells #[.int .i64 ak, .int .i64 an, .int .i64 am, .int .i64 4, .int .i64 bn, .int .i64 bm, .bool nt] 33) (.cells #[.bool true, .int .i64 s2] 45) (.cells #[.int .i64 N, .bool L, .slice p ln cap] 53) (.cells #[.bool false, .int .i64 0] 45)).trans (hB.mono (HB4.out (.cells #[.int .i64 ak, .int .i64 an, .int .i64 am, .int .i64 4, .int .i64 bn, .int .i64 bm, .bool nt] 33) (.cells #[.bool true, .int .i64 s2] 45) (.cells #[.int .i64 N, .bool L, .slice p ln cap] 53) (.cells #[.bool false, .int .i64 0] 45)).size)
              have hT4 := (hT.other (p := ⟨w.heap.size + 1, 0, none⟩) (by show _ ≠ w.heap.size + 1; omega) (.bool false)).other (p := ⟨w.heap.size + 1, 1, none⟩) (by show _ ≠ w.heap.size + 1; omega) (.int .i64 0)
              have hS := Lib.hid (hT4.s (.bool false) (.int .i64 0))
              have hB3 := Lib.hid (Below.set2 (Below.set2 hB2 (b := w.heap.size + 1) (by omega) (.bool false) (.int .i64 0)) (b := w.heap.size + 1 + 1 + 1) (by omega) (.bool false) (.int .i64 0))
              have c0 := hT.c0
              have c1 := hT.c1
              have f0 := hT.fz 0
              have f1 := hT.fz 1
              have d0 := hU.c0
              have d1 := hU.c1
              have g0 := hU.fz 0
              have g1 := hU.fz 1
              clear hB hB2 hT hU hT4
              go_wp2_with fail
              go_region
              all_goals go_wp2
              all_goals exact bodyPost_ret (v := .tuple #[.bool true, .agg #[.bool false, .int .i64 0]]) (by simp [results, Tryz.results25, go_sem, hS.out.c0, hS.out.c1]) rfl ⟨rfl, hB3.out.drew⟩
          · have t4 : (bk == 4) = false := by simpa using k4
            have e1 : goE bk (s2) N X Y = if decide (s2 ≤ N) = true then (true, false, 0) else (true, true, s2) := goE_o k1 k2 k4
            rw [e1]
            by_cases c : s2 ≤ N
            · have c' : decide (s2 ≤ N) = true := by simp [c]
              rw [if_pos c']
              go_enter Tryz.func25, Tryz.ntmps25
              go_wp2_with fail
              go_region
              all_goals go_wp2
              all_goals refine bodyPost_ret (v := .tuple #[.bool true, .agg #[.bool false, .int .i64 0]]) (by simp [results, Tryz.results25, go_sem]) rfl ⟨rfl, ?_⟩
              all_goals first | exact HB4.out _ _ _ _ | exact (HB4.out _ _ _ _).drew | exact ((HB4.out _ _ _ _).drew).drew
            · have c' : decide (s2 ≤ N) = false := by simp; omega
              rw [if_neg (by simp; omega)]
              go_enter Tryz.func25, Tryz.ntmps25
              go_wp2_with fail
              go_region
              all_goals go_wp2
              all_goals refine bodyPost_ret (v := .tuple #[.bool true, .agg #[.bool true, .int .i64 s2]]) (by simp [results, Tryz.results25, go_sem]) rfl ⟨rfl, ?_⟩
              all_goals first | exact HB4.out _ _ _ _ | exact (HB4.out _ _ _ _).drew | exact ((HB4.out _ _ _ _).drew).drew

end Go.Proofs.YtaamhjjdhebjfaaGreatDoor
