/- ask, Ask. -/
import Derived.Test.YtaamhjjdhebjfaaGreatDoorAdG
namespace Go.Proofs.YtaamhjjdhebjfaaGreatDoor
open Go.RowKit
set_option linter.unusedVariables false
set_option linter.unusedSimpArgs false

/-- What the numbers of a range are between. -/
structure Rg.Nums (r : Rg) : Prop where
  a3 : r.a.k = 3 → 0 ≤ r.a.n ∧ r.a.n ≤ 999999999 ∧ r.a.m ≤ 999999999
  b0 : 0 ≤ r.b.n
  b9 : r.b.n ≤ 999999999
theorem mayR.nums {r : Rg} (h : mayR r = true) : r.Nums := by
  obtain ⟨ha, hb, _⟩ := mayR_iff.1 h
  obtain ⟨k0, k6, n0, n9, m0, m9⟩ := isAd.nums ha
  exact ⟨fun _ => ⟨n0, n9, m9⟩, (isAd.nums hb).n0, (isAd.nums hb).n9⟩
theorem Rg.Nums.not {r : Rg} (h : r.Nums) (n : Bool) : Rg.Nums ⟨r.a, r.b, n⟩ := ⟨h.a3, h.b0, h.b9⟩

set_option maxRecDepth 100000 in
set_option maxHeartbeats 8000000 in
theorem ask_c (r : Rg) (s : Bool × Int) (N : Int) (L : Bool) (p : Option Addr) (ln cap : Nat) (H : List Bool) (hr : r.Nums) (hN0 : 0 ≤ N) (hN : N ≤ 999999999) (w : World) (hH : Bls w p ln cap H) :
    Calls Tryz.prog 24 #[rgv r, stv s, lnv N L (.slice p ln cap)] w fun e w' => e = .returned (asv (askA r s N L H)) ∧ Below w.heap.size w w' := by
  have hA := hr.a3
  have hb0 := hr.b0
  have hb9 := hr.b9
  clear hr
  obtain ⟨⟨ak, an, am⟩, ⟨bk, bn, bm⟩, nt⟩ := r
  obtain ⟨s1, s2⟩ := s
  simp only at hA hb0 hb9
  have HB := Lib.hid (Below.al4 w (.cells #[.int .i64 ak, .int .i64 an, .int .i64 am, .int .i64 bk, .int .i64 bn, .int .i64 bm, .bool nt] 25) (.cells #[.bool s1, .int .i64 s2] 44) (.cells #[.int .i64 N, .bool L, .slice p ln cap] 48) (.cells #[.bool false, .int .i64 0] 44))
  have HN := Lib.hid (Two.new4 w (.cells #[.int .i64 ak, .int .i64 an, .int .i64 am, .int .i64 bk, .int .i64 bn, .int .i64 bm, .bool nt] 25) (.cells #[.bool s1, .int .i64 s2] 44) (.cells #[.int .i64 N, .bool L, .slice p ln cap] 48) 44 (.bool false) (.int .i64 0))
  have HL := Lib.hid (hH.below HB.out (Nat.le_refl _))
  have HC0 := fun w h => hits_c ⟨ak, an, am⟩ N L p ln cap H hA hN0 hN w h
  have HG0 := fun w h => goon_c ⟨⟨ak, an, am⟩, ⟨bk, bn, bm⟩, nt⟩ (s1, s2) N L p ln cap H hA hN0 hN w h
  have HK0 := fun w h => goon_c ⟨⟨ak, an, am⟩, ⟨bk, bn, bm⟩, nt⟩ (true, 0) N L p ln cap H hA hN0 hN w h
  have HI0 := fun w => isahead_c ⟨ak, an, am⟩ w
  have HE0 := fun w => begin_c ⟨bk, bn, bm⟩ N L (.slice p ln cap) hN0 hN hb9 hb0 w
  have e0 : askA ⟨⟨ak, an, am⟩, ⟨bk, bn, bm⟩, nt⟩ (s1, s2) N L H = if bk = 0 then (hitA ⟨ak, an, am⟩ N L H, s1, s2) else if s1 then goA ⟨⟨ak, an, am⟩, ⟨bk, bn, bm⟩, nt⟩ (s1, s2) N L H else if (ak = 1 ∧ an = 0) ∧ N = 1 then goA ⟨⟨ak, an, am⟩, ⟨bk, bn, bm⟩, nt⟩ (true, 0) N L H
      else if hitA ⟨ak, an, am⟩ N L H then (true, begA ⟨bk, bn, bm⟩ N L) else (false, s1, s2) := rfl
  rw [e0]
  have e1 : decide (Ad.k ⟨ak, an, am⟩ = 1 ∧ Ad.n ⟨ak, an, am⟩ = 0) = decide (ak = 1 ∧ an = 0) := rfl
  rw [e1] at HI0
  generalize hitA ⟨ak, an, am⟩ N L H = X at HC0 ⊢
  generalize goA ⟨⟨ak, an, am⟩, ⟨bk, bn, bm⟩, nt⟩ (s1, s2) N L H = G at HG0 ⊢
  generalize goA ⟨⟨ak, an, am⟩, ⟨bk, bn, bm⟩, nt⟩ (true, 0) N L H = G2 at HK0 ⊢
  generalize begA ⟨bk, bn, bm⟩ N L = B at HE0 ⊢
  obtain ⟨ga, gb, gc⟩ := G
  obtain ⟨ka, kb, kc⟩ := G2
  obtain ⟨ba, bb⟩ := B
  unfold adv at HI0
  unfold adv lnv at HC0
  unfold adv lnv stv at HE0
  unfold rgv lnv asv stv at HG0 HK0
  unfold rgv lnv asv stv
  have HC := Lib.hid HC0
  have HG := Lib.hid HG0
  have HK := Lib.hid HK0
  have HI := Lib.hid HI0
  have HE := Lib.hid HE0
  clear HC0 HG0 HK0 HI0 HE0 e0 e1 hA hb0 hb9 hN0 hN
  by_cases h : bk = 0
  · subst h
    rw [if_pos rfl]
    have hH2 := HL.out
    clear hH
    go_enter Tryz.func24, Tryz.ntmps24
    go_wp2_with fail
    refine wp_region_noPanic ?_
    refine wp_region_held_drew (S := fun w' => (w'.cell? ⟨w.heap.size, 0, none⟩ = some (.int .i64 ak) ∧ w'.cell? ⟨w.heap.size, 1, none⟩ = some (.int .i64 an) ∧ w'.cell? ⟨w.heap.size, 2, none⟩ = some (.int .i64 am) ∧ w'.cell? ⟨w.heap.size, 3, none⟩ = some (.int .i64 0) ∧ w'.cell? ⟨w.heap.size, 4, none⟩ = some (.int .i64 bn) ∧ w'.cell? ⟨w.heap.size, 5, none⟩ = some (.int .i64 bm) ∧ w'.cell? ⟨w.heap.size, 6, none⟩ = some (.bool nt) ∧ w'.cell? ⟨(w.heap.size + 1), 0, none⟩ = some (.bool s1) ∧ w'.cell? ⟨(w.heap.size + 1), 1, none⟩ = some (.int .i64 s2) ∧ w'.cell? ⟨(w.heap.size + 1 + 1), 0, none⟩ = some (.int .i64 N) ∧ w'.cell? ⟨(w.heap.size + 1 + 1), 1, none⟩ = some (.bool L) ∧ w'.cell? ⟨(w.heap.size + 1 + 1), 2, none⟩ = some (.slice p ln cap)) ∧ (∃ v0 v1, Two w' (w.heap.size + 1 + 1 + 1) 44 v0 v1) ∧ Below w.heap.size w w') (by kernel_rfl) ?_ (fun hHeld => ?_)
    · (try dsimp only); exact ⟨by simp [go_sem], ⟨_, _, HN.out.drew⟩, HB.out.drew⟩
    refine wpAnyH_take (i := 0) (v := ?_) rfl (by kernel_rfl) (by kernel_rfl) (by kernel_rfl) (fun _ _ _ h => h) (Or.inl ⟨by kernel_rfl, ?_⟩) (by assumption) ?_
    rotate_left
    · (intro w hSw; (try dsimp only at hSw); (try obtain ⟨⟨c0, c1, c2, c3, c4, c5, c6, c7, c8, c9, c10, c11⟩, hT, hB⟩ := hSw); go_simp); (try with_reducible rfl)
    try simp only [Act.put, List.getElem_toArray, List.getElem_cons_succ, List.getElem_cons_zero, List.setIfInBounds_toArray, List.set_cons_zero, List.set_cons_succ]
    refine wpAnyH_take (i := 1) (v := ?_) rfl (by kernel_rfl) (by kernel_rfl) (by kernel_rfl) (fun _ _ _ h => h) (Or.inl ⟨by kernel_rfl, ?_⟩) (by assumption) ?_
    rotate_left
    · (intro w hSw; (try dsimp only at hSw); (try obtain ⟨⟨c0, c1, c2, c3, c4, c5, c6, c7, c8, c9, c10, c11⟩, hT, hB⟩ := hSw); go_simp); (try with_reducible rfl)
    try simp only [Act.put, List.getElem_toArray, List.getElem_cons_succ, List.getElem_cons_zero, List.setIfInBounds_toArray, List.set_cons_zero, List.set_cons_succ]
    refine wpAnyH_take (i := 2) (v := ?_) rfl (by kernel_rfl) (by kernel_rfl) (by kernel_rfl) (fun _ _ _ h => h) (Or.inl ⟨by kernel_rfl, ?_⟩) (by assumption) ?_
    rotate_left
    · (intro w hSw; (try dsimp only at hSw); (try obtain ⟨⟨c0, c1, c2, c3, c4, c5, c6, c7, c8, c9, c10, c11⟩, hT, hB⟩ := hSw); go_simp); (try with_reducible rfl)
    try simp only [Act.put, List.getElem_toArray, List.getElem_cons_succ, List.getElem_cons_zero, List.setIfInBounds_toArray, List.set_cons_zero, List.set_cons_succ]
    refine wpAnyH_take (i := 4) (v := ?_) rfl (by kernel_rfl) (by kernel_rfl) (by kernel_rfl) (fun _ _ _ h => h) (Or.inl ⟨by kernel_rfl, ?_⟩) (by assumption) ?_
    rotate_left
    · (intro w hSw; (try dsimp only at hSw); (try obtain ⟨⟨c0, c1, c2, c3, c4, c5, c6, c7, c8, c9, c10, c11⟩, hT, hB⟩ := hSw); go_simp); (try with_reducible rfl)
    try simp only [Act.put, List.getElem_toArray, List.getElem_cons_succ, List.getElem_cons_zero, List.setIfInBounds_toArray, List.set_cons_zero, List.set_cons_succ]
    refine wpAnyH_ready (rs := [3]) (by kernel_rfl) (by simp) ?_
    refine AllReadyH.cons rfl (fun K hK => ?_) ?_
    rotate_left
    · exact AllReadyH.nil
    go_simp
    have hHn := hHeld
    obtain ⟨⟨c0, c1, c2, c3, c4, c5, c6, c7, c8, c9, c10, c11⟩, hT, hB⟩ := hHn
    refine (HC.out _ (hH2.below (Below.refl _ _).drew (Nat.le_refl _))).mono ?_
    rintro e wN ⟨rfl, hBN⟩
    clear c0 c1 c2 c3 c4 c5 c6 c7 c8 c9 c10 c11 hT hB
    refine hK.out _ _ ?_ (fun hHeld => ?_)
    · (try dsimp only); obtain ⟨⟨c0, c1, c2, c3, c4, c5, c6, c7, c8, c9, c10, c11⟩, hT, hB⟩ := hHeld; exact ⟨⟨cell_keep hBN c0, cell_keep hBN c1, cell_keep hBN c2, cell_keep hBN c3, cell_keep hBN c4, cell_keep hBN c5, cell_keep hBN c6, cell_keep hBN c7, cell_keep hBN c8, cell_keep hBN c9, cell_keep hBN c10, cell_keep hBN c11⟩, (hT.elim fun v0 h => h.elim fun v1 h => ⟨v0, v1, h.beside hBN⟩), hB.trans (hBN.mono hB.size)⟩
    clear hK K
    try simp only [Act.put, List.getElem_toArray, List.getElem_cons_succ, List.getElem_cons_zero, List.setIfInBounds_toArray, List.set_cons_zero, List.set_cons_succ]
    refine wpAnyH_take (i := 5) (v := ?_) rfl (by kernel_rfl) (by kernel_rfl) (by kernel_rfl) (fun _ _ _ h => h) (Or.inl ⟨by kernel_rfl, ?_⟩) (by assumption) ?_
    rotate_left
    · (intro w hSw; (try dsimp only at hSw); (try obtain ⟨⟨c0, c1, c2, c3, c4, c5, c6, c7, c8, c9, c10, c11⟩, hT, hB⟩ := hSw); go_simp); (try with_reducible rfl)
    try simp only [Act.put, List.getElem_toArray, List.getElem_cons_succ, List.getElem_cons_zero, List.setIfInBounds_toArray, List.set_cons_zero, List.set_cons_succ]
    refine wpAnyH_ready (rs := [6]) (by kernel_rfl) (by simp) ?_
    refine AllReadyH.cons rfl (fun K hK => ?_) ?_
    rotate_left
    · exact AllReadyH.nil
    have hHn := hHeld
    obtain ⟨⟨c0, c1, c2, c3, c4, c5, c6, c7, c8, c9, c10, c11⟩, hT, hB⟩ := hHn
    obtain ⟨v0, v1, hT⟩ := hT
    have hS := hT.s (.bool s1) (.int .i64 s2)
    have hB3 := Below.set2 hB (b := w.heap.size + 1 + 1 + 1) (by omega) (.bool s1) (.int .i64 s2)
    have f0 := hT.fz 0
    have f1 := hT.fz 1
    have g0 := hT.c0
    have g1 := hT.c1
    go_simp
    refine hK.out _ _ ?_ (fun hHeld => ?_)
    · (try dsimp only); exact ⟨⟨cell_set2 c0 (by omega), cell_set2 c1 (by omega), cell_set2 c2 (by omega), cell_set2 c3 (by omega), cell_set2 c4 (by omega), cell_set2 c5 (by omega), cell_set2 c6 (by omega), cell_set2 c7 (by omega), cell_set2 c8 (by omega), cell_set2 c9 (by omega), cell_set2 c10 (by omega), cell_set2 c11 (by omega)⟩, ⟨_, _, hS⟩, hB3⟩
    clear hK K
    try simp only [Act.put, List.getElem_toArray, List.getElem_cons_succ, List.getElem_cons_zero, List.setIfInBounds_toArray, List.set_cons_zero, List.set_cons_succ]
    refine wpAnyH_done (by kernel_rfl) ?_ _
    refine NoPanic.normal ?_
    go_wp2
    refine bodyPost_ret (v := .tuple #[.bool X, .agg #[.bool s1, .int .i64 s2]]) (by simp [results, Tryz.results24, go_sem, hS.c0, hS.c1]) rfl ⟨rfl, hB3⟩
  · rw [if_neg h]
    have t1 : (bk == 0) = false := by simpa using h
    clear h hH
    cases s1
    · simp only [Bool.false_eq_true, if_false]
      by_cases h : ak = 1 ∧ an = 0
      · have e2 : decide (ak = 1 ∧ an = 0) = true := by simp [h]
        rw [e2] at HI
        by_cases h3 : N = 1
        · rw [if_pos ⟨h, h3⟩]
          subst h3
          clear h e2
          go_enter Tryz.func24, Tryz.ntmps24
          go_wp2_with fail
          refine (HI.out _).mono ?_
          rintro e wI ⟨rfl, hI⟩
          have e0 := cell_keep hI (show World.cell? _ ⟨w.heap.size, 0, none⟩ = some (.int .i64 ak) by simp [go_sem])
          have e1 := cell_keep hI (show World.cell? _ ⟨w.heap.size, 1, none⟩ = some (.int .i64 an) by simp [go_sem])
          have e2 := cell_keep hI (show World.cell? _ ⟨w.heap.size, 2, none⟩ = some (.int .i64 am) by simp [go_sem])
          have e3 := cell_keep hI (show World.cell? _ ⟨w.heap.size, 3, none⟩ = some (.int .i64 bk) by simp [go_sem])
          have e4 := cell_keep hI (show World.cell? _ ⟨w.heap.size, 4, none⟩ = some (.int .i64 bn) by simp [go_sem])
          have e5 := cell_keep hI (show World.cell? _ ⟨w.heap.size, 5, none⟩ = some (.int .i64 bm) by simp [go_sem])
          have e6 := cell_keep hI (show World.cell? _ ⟨w.heap.size, 6, none⟩ = some (.bool nt) by simp [go_sem])
          have e7 := cell_keep hI (show World.cell? _ ⟨(w.heap.size + 1), 0, none⟩ = some (.bool false) by simp [go_sem])
          have e8 := cell_keep hI (show World.cell? _ ⟨(w.heap.size + 1), 1, none⟩ = some (.int .i64 s2) by simp [go_sem])
          have e9 := cell_keep hI (show World.cell? _ ⟨(w.heap.size + 1 + 1), 0, none⟩ = some (.int .i64 1) by simp [go_sem])
          have e10 := cell_keep hI (show World.cell? _ ⟨(w.heap.size + 1 + 1), 1, none⟩ = some (.bool L) by simp [go_sem])
          have e11 := cell_keep hI (show World.cell? _ ⟨(w.heap.size + 1 + 1), 2, none⟩ = some (.slice p ln cap) by simp [go_sem])
          have HN := Lib.hid (HN.out.beside hI)
          have HL := Lib.hid (HL.out.below hI (Nat.le_refl _))
          have HB := Lib.hid (HB.out.trans (hI.mono HB.out.size))
          clear hI
          go_wp2_with fail
          refine (HK.out _ HL.out).mono ?_
          rintro e wN ⟨rfl, hB⟩
          have hT := HN.out.beside hB
          have hB2 := HB.out.trans (hB.mono HB.out.size)
          have hS := Lib.hid (hT.s (.bool kb) (.int .i64 kc))
          have hB3 := Lib.hid (Below.set2 hB2 (b := w.heap.size + 1 + 1 + 1) (by omega) (.bool kb) (.int .i64 kc))
          have c0 := hT.c0
          have c1 := hT.c1
          have f0 := hT.fz 0
          have f1 := hT.fz 1
          clear hB hB2 hT
          go_wp2
          refine bodyPost_ret (v := .tuple #[.bool ka, .agg #[.bool kb, .int .i64 kc]]) (by simp [results, Tryz.results24, go_sem, hS.out.c0, hS.out.c1]) rfl ⟨rfl, hB3.out⟩
        · rw [if_neg (fun q => h3 q.2)]
          have t3 : (N == 1) = false := by simpa using h3
          clear h e2 h3
          go_enter Tryz.func24, Tryz.ntmps24
          go_wp2_with fail
          refine (HI.out _).mono ?_
          rintro e wI ⟨rfl, hI⟩
          have e0 := cell_keep hI (show World.cell? _ ⟨w.heap.size, 0, none⟩ = some (.int .i64 ak) by simp [go_sem])
          have e1 := cell_keep hI (show World.cell? _ ⟨w.heap.size, 1, none⟩ = some (.int .i64 an) by simp [go_sem])
          have e2 := cell_keep hI (show World.cell? _ ⟨w.heap.size, 2, none⟩ = some (.int .i64 am) by simp [go_sem])
          have e3 := cell_keep hI (show World.cell? _ ⟨w.heap.size, 3, none⟩ = some (.int .i64 bk) by simp [go_sem])
          have e4 := cell_keep hI (show World.cell? _ ⟨w.heap.size, 4, none⟩ = some (.int .i64 bn) by simp [go_sem])
          have e5 := cell_keep hI (show World.cell? _ ⟨w.heap.size, 5, none⟩ = some (.int .i64 bm) by simp [go_sem])
          have e6 := cell_keep hI (show World.cell? _ ⟨w.heap.size, 6, none⟩ = some (.bool nt) by simp [go_sem])
          have e7 := cell_keep hI (show World.cell? _ ⟨(w.heap.size + 1), 0, none⟩ = some (.bool false) by simp [go_sem])
          have e8 := cell_keep hI (show World.cell? _ ⟨(w.heap.size + 1), 1, none⟩ = some (.int .i64 s2) by simp [go_sem])
          have e9 := cell_keep hI (show World.cell? _ ⟨(w.heap.size + 1 + 1), 0, none⟩ = some (.int .i64 N) by simp [go_sem])
          have e10 := cell_keep hI (show World.cell? _ ⟨(w.heap.size + 1 + 1), 1, none⟩ = some (.bool L) by simp [go_sem])
          have e11 := cell_keep hI (show World.cell? _ ⟨(w.heap.size + 1 + 1), 2, none⟩ = some (.slice p ln cap) by simp [go_sem])
          have HN := Lib.hid (HN.out.beside hI)
          have HL := Lib.hid (HL.out.below hI (Nat.le_refl _))
          have HB := Lib.hid (HB.out.trans (hI.mono HB.out.size))
          clear hI
          go_wp2_with fail
          refine (HC.out _ HL.out).mono ?_
          rintro e wC ⟨rfl, hI⟩
          replace e0 := cell_keep hI e0
          replace e1 := cell_keep hI e1
          replace e2 := cell_keep hI e2
          replace e3 := cell_keep hI e3
          replace e4 := cell_keep hI e4
          replace e5 := cell_keep hI e5
          replace e6 := cell_keep hI e6
          replace e7 := cell_keep hI e7
          replace e8 := cell_keep hI e8
          replace e9 := cell_keep hI e9
          replace e10 := cell_keep hI e10
          replace e11 := cell_keep hI e11
          have HN := Lib.hid (HN.out.beside hI)
          have HL := Lib.hid (HL.out.below hI (Nat.le_refl _))
          have HB := Lib.hid (HB.out.trans (hI.mono HB.out.size))
          clear hI
          cases X
          · simp only [Bool.false_eq_true, if_false]
            have hT := HN.out
            have hB2 := HB.out
            have hS := Lib.hid (hT.s (.bool false) (.int .i64 s2))
            have hB3 := Lib.hid (Below.set2 hB2 (b := w.heap.size + 1 + 1 + 1) (by omega) (.bool false) (.int .i64 s2))
            have c0 := hT.c0
            have c1 := hT.c1
            have f0 := hT.fz 0
            have f1 := hT.fz 1
            clear hB2 hT
            go_wp2_with fail
            go_region
            all_goals go_wp2
            all_goals exact bodyPost_ret (v := .tuple #[.bool false, .agg #[.bool false, .int .i64 s2]]) (by simp [results, Tryz.results24, go_sem, hS.out.c0, hS.out.c1]) rfl ⟨rfl, hB3.out.drew⟩
          · simp only [if_true]
            go_wp2_with fail
            refine (HE.out _).mono ?_
            rintro e wN ⟨rfl, hB⟩
            have hT := HN.out.beside hB
            have hB2 := HB.out.trans (hB.mono HB.out.size)
            have hS := Lib.hid (hT.s (.bool ba) (.int .i64 bb))
            have hB3 := Lib.hid (Below.set2 hB2 (b := w.heap.size + 1 + 1 + 1) (by omega) (.bool ba) (.int .i64 bb))
            have c0 := hT.c0
            have c1 := hT.c1
            have f0 := hT.fz 0
            have f1 := hT.fz 1
            clear hB hB2 hT
            go_wp2
            refine bodyPost_ret (v := .tuple #[.bool true, .agg #[.bool ba, .int .i64 bb]]) (by simp [results, Tryz.results24, go_sem, hS.out.c0, hS.out.c1]) rfl ⟨rfl, hB3.out⟩
      · have e2 : decide (ak = 1 ∧ an = 0) = false := by simpa using h
        rw [e2] at HI
        rw [if_neg (fun q => h q.1)]
        clear h e2
        go_enter Tryz.func24, Tryz.ntmps24
        go_wp2_with fail
        refine (HI.out _).mono ?_
        rintro e wI ⟨rfl, hI⟩
        have e0 := cell_keep hI (show World.cell? _ ⟨w.heap.size, 0, none⟩ = some (.int .i64 ak) by simp [go_sem])
        have e1 := cell_keep hI (show World.cell? _ ⟨w.heap.size, 1, none⟩ = some (.int .i64 an) by simp [go_sem])
        have e2 := cell_keep hI (show World.cell? _ ⟨w.heap.size, 2, none⟩ = some (.int .i64 am) by simp [go_sem])
        have e3 := cell_keep hI (show World.cell? _ ⟨w.heap.size, 3, none⟩ = some (.int .i64 bk) by simp [go_sem])
        have e4 := cell_keep hI (show World.cell? _ ⟨w.heap.size, 4, none⟩ = some (.int .i64 bn) by simp [go_sem])
        have e5 := cell_keep hI (show World.cell? _ ⟨w.heap.size, 5, none⟩ = some (.int .i64 bm) by simp [go_sem])
        have e6 := cell_keep hI (show World.cell? _ ⟨w.heap.size, 6, none⟩ = some (.bool nt) by simp [go_sem])
        have e7 := cell_keep hI (show World.cell? _ ⟨(w.heap.size + 1), 0, none⟩ = some (.bool false) by simp [go_sem])
        have e8 := cell_keep hI (show World.cell? _ ⟨(w.heap.size + 1), 1, none⟩ = some (.int .i64 s2) by simp [go_sem])
        have e9 := cell_keep hI (show World.cell? _ ⟨(w.heap.size + 1 + 1), 0, none⟩ = some (.int .i64 N) by simp [go_sem])
        have e10 := cell_keep hI (show World.cell? _ ⟨(w.heap.size + 1 + 1), 1, none⟩ = some (.bool L) by simp [go_sem])
        have e11 := cell_keep hI (show World.cell? _ ⟨(w.heap.size + 1 + 1), 2, none⟩ = some (.slice p ln cap) by simp [go_sem])
        have HN := Lib.hid (HN.out.beside hI)
        have HL := Lib.hid (HL.out.below hI (Nat.le_refl _))
        have HB := Lib.hid (HB.out.trans (hI.mono HB.out.size))
        clear hI
        go_wp2_with fail
        refine (HC.out _ HL.out).mono ?_
        rintro e wC ⟨rfl, hI⟩
        replace e0 := cell_keep hI e0
        replace e1 := cell_keep hI e1
        replace e2 := cell_keep hI e2
        replace e3 := cell_keep hI e3
        replace e4 := cell_keep hI e4
        replace e5 := cell_keep hI e5
        replace e6 := cell_keep hI e6
        replace e7 := cell_keep hI e7
        replace e8 := cell_keep hI e8
        replace e9 := cell_keep hI e9
        replace e10 := cell_keep hI e10
        replace e11 := cell_keep hI e11
        have HN := Lib.hid (HN.out.beside hI)
        have HL := Lib.hid (HL.out.below hI (Nat.le_refl _))
        have HB := Lib.hid (HB.out.trans (hI.mono HB.out.size))
        clear hI
        cases X
        · simp only [Bool.false_eq_true, if_false]
          have hT := HN.out
          have hB2 := HB.out
          have hS := Lib.hid (hT.s (.bool false) (.int .i64 s2))
          have hB3 := Lib.hid (Below.set2 hB2 (b := w.heap.size + 1 + 1 + 1) (by omega) (.bool false) (.int .i64 s2))
          have c0 := hT.c0
          have c1 := hT.c1
          have f0 := hT.fz 0
          have f1 := hT.fz 1
          clear hB2 hT
          go_wp2_with fail
          go_region
          all_goals go_wp2
          all_goals exact bodyPost_ret (v := .tuple #[.bool false, .agg #[.bool false, .int .i64 s2]]) (by simp [results, Tryz.results24, go_sem, hS.out.c0, hS.out.c1]) rfl ⟨rfl, hB3.out.drew⟩
        · simp only [if_true]
          go_wp2_with fail
          refine (HE.out _).mono ?_
          rintro e wN ⟨rfl, hB⟩
          have hT := HN.out.beside hB
          have hB2 := HB.out.trans (hB.mono HB.out.size)
          have hS := Lib.hid (hT.s (.bool ba) (.int .i64 bb))
          have hB3 := Lib.hid (Below.set2 hB2 (b := w.heap.size + 1 + 1 + 1) (by omega) (.bool ba) (.int .i64 bb))
          have c0 := hT.c0
          have c1 := hT.c1
          have f0 := hT.fz 0
          have f1 := hT.fz 1
          clear hB hB2 hT
          go_wp2
          refine bodyPost_ret (v := .tuple #[.bool true, .agg #[.bool ba, .int .i64 bb]]) (by simp [results, Tryz.results24, go_sem, hS.out.c0, hS.out.c1]) rfl ⟨rfl, hB3.out⟩
    · simp only [if_true]
      go_enter Tryz.func24, Tryz.ntmps24
      go_wp2_with fail
      refine (HG.out _ HL.out).mono ?_
      rintro e wN ⟨rfl, hB⟩
      have hT := HN.out.beside hB
      have hB2 := HB.out.trans (hB.mono HB.out.size)
      have hS := Lib.hid (hT.s (.bool gb) (.int .i64 gc))
      have hB3 := Lib.hid (Below.set2 hB2 (b := w.heap.size + 1 + 1 + 1) (by omega) (.bool gb) (.int .i64 gc))
      have c0 := hT.c0
      have c1 := hT.c1
      have f0 := hT.fz 0
      have f1 := hT.fz 1
      clear hB hB2 hT
      go_wp2
      refine bodyPost_ret (v := .tuple #[.bool ga, .agg #[.bool gb, .int .i64 gc]]) (by simp [results, Tryz.results24, go_sem, hS.out.c0, hS.out.c1]) rfl ⟨rfl, hB3.out⟩
set_option maxRecDepth 100000 in
set_option maxHeartbeats 8000000 in
theorem Ask_c (r : Rg) (s : Bool × Int) (N : Int) (L : Bool) (p : Option Addr) (ln cap : Nat) (H : List Bool) (hr : r.Nums) (hN0 : 0 ≤ N) (hN : N ≤ 999999999) (w : World) (hH : Bls w p ln cap H) :
    Calls Tryz.prog 13 #[rgv r, stv s, lnv N L (.slice p ln cap)] w fun e w' => e = .returned (asv ((askA r s N L H).1 != r.not, (askA r s N L H).2)) ∧ Below w.heap.size w w' := by
  have HC0 := fun w h => ask_c r s N L p ln cap H hr hN0 hN w h
  generalize askA r s N L H = G at HC0 ⊢
  clear hr hN0 hN
  obtain ⟨⟨ak, an, am⟩, ⟨bk, bn, bm⟩, nt⟩ := r
  obtain ⟨s1, s2⟩ := s
  have HB := Lib.hid (Below.al4 w (.cells #[.int .i64 ak, .int .i64 an, .int .i64 am, .int .i64 bk, .int .i64 bn, .int .i64 bm, .bool nt] 25) (.cells #[.bool s1, .int .i64 s2] 44) (.cells #[.int .i64 N, .bool L, .slice p ln cap] 48) (.cells #[.bool false, .int .i64 0] 44))
  have HN := Lib.hid (Two.new4 w (.cells #[.int .i64 ak, .int .i64 an, .int .i64 am, .int .i64 bk, .int .i64 bn, .int .i64 bm, .bool nt] 25) (.cells #[.bool s1, .int .i64 s2] 44) (.cells #[.int .i64 N, .bool L, .slice p ln cap] 48) 44 (.bool false) (.int .i64 0))
  have HL := Lib.hid (hH.below HB.out (Nat.le_refl _))
  obtain ⟨ga, gb, gc⟩ := G
  unfold rgv lnv asv stv at HC0
  unfold rgv lnv asv stv
  simp only at HC0 ⊢
  have HC := Lib.hid HC0
  clear HC0 hH
  go_enter Tryz.func13, Tryz.ntmps13
  go_wp2_with fail
  refine (HC.out _ HL.out).mono ?_
  rintro e wI ⟨rfl, hI⟩
  have e0 := cell_keep hI (show World.cell? _ ⟨w.heap.size, 0, none⟩ = some (.int .i64 ak) by simp [go_sem])
  have e1 := cell_keep hI (show World.cell? _ ⟨w.heap.size, 1, none⟩ = some (.int .i64 an) by simp [go_sem])
  have e2 := cell_keep hI (show World.cell? _ ⟨w.heap.size, 2, none⟩ = some (.int .i64 am) by simp [go_sem])
  have e3 := cell_keep hI (show World.cell? _ ⟨w.heap.size, 3, none⟩ = some (.int .i64 bk) by simp [go_sem])
  have e4 := cell_keep hI (show World.cell? _ ⟨w.heap.size, 4, none⟩ = some (.int .i64 bn) by simp [go_sem])
  have e5 := cell_keep hI (show World.cell? _ ⟨w.heap.size, 5, none⟩ = some (.int .i64 bm) by simp [go_sem])
  have e6 := cell_keep hI (show World.cell? _ ⟨w.heap.size, 6, none⟩ = some (.bool nt) by simp [go_sem])
  have e7 := cell_keep hI (show World.cell? _ ⟨(w.heap.size + 1), 0, none⟩ = some (.bool s1) by simp [go_sem])
  have e8 := cell_keep hI (show World.cell? _ ⟨(w.heap.size + 1), 1, none⟩ = some (.int .i64 s2) by simp [go_sem])
  have e9 := cell_keep hI (show World.cell? _ ⟨(w.heap.size + 1 + 1), 0, none⟩ = some (.int .i64 N) by simp [go_sem])
  have e10 := cell_keep hI (show World.cell? _ ⟨(w.heap.size + 1 + 1), 1, none⟩ = some (.bool L) by simp [go_sem])
  have e11 := cell_keep hI (show World.cell? _ ⟨(w.heap.size + 1 + 1), 2, none⟩ = some (.slice p ln cap) by simp [go_sem])
  have HN := Lib.hid (HN.out.beside hI)
  have HL := Lib.hid (HL.out.below hI (Nat.le_refl _))
  have HB := Lib.hid (HB.out.trans (hI.mono HB.out.size))
  clear hI
  have hT := HN.out.alloc (.cells #[.bool gb, .int .i64 gc] 44)
  have hB2 := Below.set2 HB.out (b := w.heap.size + 1 + 1 + 1) (by omega) (.bool gb) (.int .i64 gc)
  have hS := Lib.hid ((HN.out.s (.bool gb) (.int .i64 gc)).alloc (.cells #[.bool gb, .int .i64 gc] 44))
  have hB3 := Lib.hid (hB2.alloc hB2.size (.cells #[.bool gb, .int .i64 gc] 44))
  have c0 := hT.c0
  have c1 := hT.c1
  have f0 := hT.fz 0
  have f1 := hT.fz 1
  have c0' := HN.out.c0
  have c1' := HN.out.c1
  have f0' := HN.out.fz 0
  have f1' := HN.out.fz 1
  have e6' := cell_keep ((Below.refl _ wI).alloc (Nat.le_refl _) (.cells #[.bool gb, .int .i64 gc] 44)) e6
  have hlt := HN.out.lt
  clear hB2 hT
  go_wp2_with fail
  go_region
  all_goals go_wp2
  all_goals exact bodyPost_ret (v := .tuple #[.bool (ga != nt), .agg #[.bool gb, .int .i64 gc]]) (by simp [results, Tryz.results13, go_sem, hS.out.c0, hS.out.c1]; cases ga <;> cases nt <;> rfl) rfl ⟨rfl, hB3.out.drew⟩

end Go.Proofs.YtaamhjjdhebjfaaGreatDoor
