/- The reference's Ask; AddrAsks: the walk. -/
import Derived.Test.YtaamhjjdhebjfaaGreatDoorAdX
namespace Go.Proofs.YtaamhjjdhebjfaaGreatDoor
open Go.RowKit Go.Lib
set_option linter.unusedVariables false
set_option linter.unusedSimpArgs false

set_option maxRecDepth 100000 in
set_option maxHeartbeats 8000000 in
theorem rAsk_c (r : Rg) (s : Bool × Int) (N : Int) (L : Bool) (p : Option Addr) (ln cap : Nat) (H : List Bool) (hm : mayR r = true) (hN0 : 0 ≤ N) (hN : N ≤ 999999999) (w : World) (hH : Bls w p ln cap H) :
    Calls Tryz.prog 14 #[rgv r, stv s, lnv N L (.slice p ln cap)] w fun e w' => e = .returned (asv ((askA r s N L H).1 != r.not, (askA r s N L H).2)) ∧ Below w.heap.size w w' := by
  have HC0 := fun w h => rask_c r s N L p ln cap H hm hN0 hN w h
  generalize askA r s N L H = G at HC0 ⊢
  clear hm hN0 hN
  obtain ⟨⟨ak, an, am⟩, ⟨bk, bn, bm⟩, nt⟩ := r
  obtain ⟨s1, s2⟩ := s
  have HB := Lib.hid (Below.al4 w (.cells #[.int .i64 ak, .int .i64 an, .int .i64 am, .int .i64 bk, .int .i64 bn, .int .i64 bm, .bool nt] 33) (.cells #[.bool s1, .int .i64 s2] 45) (.cells #[.int .i64 N, .bool L, .slice p ln cap] 53) (.cells #[.bool false, .int .i64 0] 45))
  have HN := Lib.hid (Two.new4 w (.cells #[.int .i64 ak, .int .i64 an, .int .i64 am, .int .i64 bk, .int .i64 bn, .int .i64 bm, .bool nt] 33) (.cells #[.bool s1, .int .i64 s2] 45) (.cells #[.int .i64 N, .bool L, .slice p ln cap] 53) 45 (.bool false) (.int .i64 0))
  have HL := Lib.hid (hH.below HB.out (Nat.le_refl _))
  obtain ⟨ga, gb, gc⟩ := G
  unfold rgv lnv asv stv at HC0
  unfold rgv lnv asv stv
  simp only at HC0 ⊢
  have HC := Lib.hid HC0
  clear HC0 hH
  go_enter Tryz.func14, Tryz.ntmps14
  go_wp2_with fail
  refine (HC.out _ HL.out).mono ?_
  rintro e wI ⟨rfl, hI⟩
  have e0 := cell_keep hI (show World.cell? _ ⟨w.heap.size, 0, none⟩ = some (.int .i64 ak) by simp [go_sem])
  have e1 := cell_keep hI (show World.cell? _ ⟨w.heap.size, 1, none⟩ = some (.int .i64 an) by simp [go_sem])
  have e2 := cell_keep hI (show World.cell? _ ⟨w.heap.size, 2, none⟩ = some (.int .i64 am) by simp [go_sem])
  have e3 := cell_keep hI (show World.cell? _ ⟨w.heap.size, 3, none⟩ = some (.int .i64 bk) by simp [go_sem])
  have e4 := cell_keep hI (show World.cell? _ ⟨w.heap.size, 4, none⟩ = some (.int .i64 bn) by simp [go_sem])
  have e5 := cell_keep hI (show World.cell? _ ⟨w.heap.size, 5, none⟩ = some (.int .i64 bm) by simp [go_sem])
  have e6 := cell_keep hI (show World.cell? _ ⟨w.heap.size, 6, none⟩ = some (.bool nt) by simp [go_sem])
  have e7 := cell_keep hI (show World.cell? _ ⟨(w.heap.size + 1), 0, none⟩ = some (.bool s1) by simp [go_sem])
  have e8 := cell_keep hI (show World.cell? _ ⟨(w.heap.size + 1), 1, none⟩ = some (.int .i64 s2) by simp [go_sem])
  have e9 := cell_keep hI (show World.cell? _ ⟨(w.heap.size + 1 + 1), 0, none⟩ = some (.int .i64 N) by simp [go_sem])
  have e10 := cell_keep hI (show World.cell? _ ⟨(w.heap.size + 1 + 1), 1, none⟩ = some (.bool L) by simp [go_sem])
  have e11 := cell_keep hI (show World.cell? _ ⟨(w.heap.size + 1 + 1), 2, none⟩ = some (.slice p ln cap) by simp [go_sem])
  have HN := Lib.hid (HN.out.beside hI)
  have HL := Lib.hid (HL.out.below hI (Nat.le_refl _))
  have HB := Lib.hid (HB.out.trans (hI.mono HB.out.size))
  clear hI
  have hT := HN.out.alloc (.cells #[.bool gb, .int .i64 gc] 45)
  have hB2 := Below.set2 HB.out (b := w.heap.size + 1 + 1 + 1) (by omega) (.bool gb) (.int .i64 gc)
  have hS := Lib.hid ((HN.out.s (.bool gb) (.int .i64 gc)).alloc (.cells #[.bool gb, .int .i64 gc] 45))
  have hB3 := Lib.hid (hB2.alloc hB2.size (.cells #[.bool gb, .int .i64 gc] 45))
  have c0 := hT.c0
  have c1 := hT.c1
  have f0 := hT.fz 0
  have f1 := hT.fz 1
  have c0' := HN.out.c0
  have c1' := HN.out.c1
  have f0' := HN.out.fz 0
  have f1' := HN.out.fz 1
  have e6' := cell_keep ((Below.refl _ wI).alloc (Nat.le_refl _) (.cells #[.bool gb, .int .i64 gc] 45)) e6
  have hlt := HN.out.lt
  clear hB2 hT
  go_wp2_with fail
  go_region
  all_goals go_wp2
  all_goals exact bodyPost_ret (v := .tuple #[.bool (ga != nt), .agg #[.bool gb, .int .i64 gc]]) (by simp [results, Tryz.results14, go_sem, hS.out.c0, hS.out.c1]; cases ga <;> cases nt <;> rfl) rfl ⟨rfl, hB3.out.drew⟩

theorem new22 (w : World) (t1 t2 : TypeId) (v0 v1 u0 u1 : Value) : Two ((w.alloc (.cells #[v0, v1] t1)).alloc (.cells #[u0, u1] t2)) w.heap.size t1 v0 v1 ∧ Two ((w.alloc (.cells #[v0, v1] t1)).alloc (.cells #[u0, u1] t2)) (w.heap.size + 1) t2 u0 u1 := by
  refine ⟨(Two.new w _ _ _).alloc _, ?_⟩
  have h := Two.new (w.alloc (.cells #[v0, v1] t1)) t2 u0 u1
  rw [World.size_alloc] at h
  exact h
set_option maxRecDepth 100000 in
set_option maxHeartbeats 8000000 in
theorem asksW (r : Rg) (p : Option Addr) (n cap : Nat) (ls : List Li) (w : World) (hls : Lns w p n cap ls) (hfit : Fit6 w) :
    Calls Tryz.prog 4 #[rgv r, .slice p n cap] w fun e w' => e = .returned (.bool true) ∧ Below w.heap.size w w' := by
  have HS := Lib.hid (fun w h => shown_c w h)
  have hlen := hls.len
  have hle := hls.le
  have hcm := hls.capm
  have M0 := fun w => may_c r w
  generalize hMd : mayR r = M at M0
  have hr0 : M = true → mayR r = true := fun h => hMd.trans h
  clear hMd
  have AA0 := fun (s : Bool × Int) (x : Li) (h : mayR r = true) (h1 : 0 ≤ x.N) (h9 : x.N ≤ 999999999) w (hb : Bls w x.p x.n x.c x.H) => Ask_c r s x.N x.L x.p x.n x.c x.H (mayR.nums h) h1 h9 w hb
  have NN0 := fun (s : Bool × Int) (x : Li) (h : mayR r = true) (h1 : 0 ≤ x.N) (h9 : x.N ≤ 999999999) w (hb : Bls w x.p x.n x.c x.H) => rAsk_c r s x.N x.L x.p x.n x.c x.H h h1 h9 w hb
  have GG0 := fun w => rng_c r w
  generalize hMay : mayR r = MM at AA0 NN0 hr0
  clear hMay
  generalize askA r = AK at AA0 NN0
  obtain ⟨⟨ak, an, am⟩, ⟨bk, bn, bm⟩, nt⟩ := r
  unfold rgv at M0 AA0 NN0 GG0 ⊢
  unfold stv lnv asv stv at AA0 NN0
  simp only at M0 AA0 NN0 GG0 ⊢
  have HM := Lib.hid M0
  have AA := Lib.hid AA0
  have NN := Lib.hid NN0
  have GG := Lib.hid GG0
  have hB0 := (Below.refl _ w).alloc (Nat.le_refl _) (.cells #[.int .i64 ak, .int .i64 an, .int .i64 am, .int .i64 bk, .int .i64 bn, .int .i64 bm, .bool nt] 25)
  have HB := Lib.hid hB0
  have H7 := Lib.hid (Seven.new w 25 (.int .i64 ak) (.int .i64 an) (.int .i64 am) (.int .i64 bk) (.int .i64 bn) (.int .i64 bm) (.bool nt))
  have HF := Lib.hid (hfit.below hB0)
  have HLS := Lib.hid hls
  have hFit : ∀ W, Below w.heap.size w W → Fit6 W := fun W h => hfit.below h
  have HFit := Lib.hid hFit
  clear M0 AA0 NN0 GG0 hB0 hfit hls hFit
  by_cases c1 : 60 < n
  · have t1 : (60 : Int) < (n : Int) := by omega
    go_enter Tryz.func4, Tryz.ntmps4
    go_wp2_with fail
    refine (HS.out _ HF.out).mono ?_
    rintro e w1 ⟨rfl, hB⟩
    have HB1 := Lib.hid (HB.out.trans (hB.mono HB.out.size))
    clear hB
    go_wp2
    go_ret
    exact ⟨rfl, HB1.out⟩
  · have t1 : ¬ (60 : Int) < (n : Int) := by omega
    cases M
    · go_enter Tryz.func4, Tryz.ntmps4
      go_wp2_with fail
      refine (HM.out _).mono ?_
      rintro e w1 ⟨rfl, hB⟩
      have HB1 := Lib.hid (HB.out.trans (hB.mono HB.out.size))
      have HF1 := Lib.hid (HF.out.below hB)
      clear hB
      go_wp2_with fail
      refine (HS.out _ HF1.out).mono ?_
      rintro e w2 ⟨rfl, hB⟩
      have HB2 := Lib.hid (HB1.out.trans (hB.mono HB1.out.size))
      clear hB
      go_wp2
      go_ret
      exact ⟨rfl, HB2.out⟩
    · have hr := hr0 rfl
      clear hr0
      go_enter Tryz.func4, Tryz.ntmps4
      go_wp2_with fail
      refine (HM.out _).mono ?_
      rintro e w1 ⟨rfl, hB⟩
      have HB1 := Lib.hid (HB.out.trans (hB.mono HB.out.size))
      have HF1 := Lib.hid (HF.out.below hB)
      have H71 := Lib.hid (H7.out.beside hB)
      clear hB
      go_wp2_with fail
      refine (HS.out _ HF1.out).mono ?_
      rintro e w2 ⟨rfl, hB⟩
      have HB2 := Lib.hid (HB1.out.trans (hB.mono HB1.out.size))
      have H72 := Lib.hid (H71.out.beside hB)
      clear hB
      have hlt2 : w.heap.size < w2.heap.size := H72.out.lt
      have HNN := Lib.hid (new22 w2 44 45 (.bool false) (.int .i64 0) (.bool false) (.int .i64 0))
      have HBN := Lib.hid (Below.al2 w2 (.cells #[.bool false, .int .i64 0] 44) (.cells #[.bool false, .int .i64 0] 45))
      go_wp2_with fail
      go_loopw [7] (fun i wr => ∃ (k : Nat) (st : Bool × Int), k ≤ n ∧ i = .int .i64 k ∧ Seven wr w.heap.size 25 (.int .i64 ak) (.int .i64 an) (.int .i64 am) (.int .i64 bk) (.int .i64 bn) (.int .i64 bm) (.bool nt) ∧ Two wr w2.heap.size 44 (.bool st.1) (.int .i64 st.2) ∧ Two wr (w2.heap.size + 1) 45 (.bool st.1) (.int .i64 st.2) ∧ Below w.heap.size w wr) (fun i _ => n - (RowKit.intOf i).toNat)
      case atStart =>
        refine ⟨0, (false, 0), by omega, rfl, H72.out.beside HBN.out, HNN.out.1, HNN.out.2, HB2.out.trans (HBN.out.mono HB2.out.size)⟩
      case round =>
        obtain ⟨k, ⟨x1, x2⟩, hk, rfl, h7, h2, h3, hB⟩ := hrel
        simp only at h2 h3
        by_cases hlt : k < n
        · have t0 : (k : Int) < (n : Int) := by omega
          have hL := HLS.out.below hB (Nat.le_refl _)
          obtain ⟨b, o, rfl⟩ := hL.ptr (by omega)
          obtain ⟨x, hxk⟩ : ∃ x, ls[k]? = some x := ⟨ls[k]'(by omega), List.getElem?_eq_getElem (by omega)⟩
          obtain ⟨l0, l1, l2⟩ := hL.cell b o rfl k x hxk
          have hbl := HLS.out.lt (by omega) b o rfl
          have BLX := fun (W : World) (h : Below w.heap.size w W) => (HLS.out.below h (Nat.le_refl _)).bls k x hxk
          have AX0 := fun h1 h9 W (h : Below w.heap.size w W) => AA.out (x1, x2) x hr h1 h9 W (BLX W h)
          have NX0 := fun h1 h9 W (h : Below w.heap.size w W) => NN.out (x1, x2) x hr h1 h9 W (BLX W h)
          have LX0 := fun W => line_c x.N x.L x.p x.n x.c W
          have hcx := (hL.bls k x hxk).capm
          have hlx := (hL.bls k x hxk).le
          obtain ⟨lN, lL, lp, ln, lc, lH⟩ := x
          unfold lnv at LX0
          simp only at l0 l1 l2 AX0 NX0 LX0 hcx hlx
          generalize AK (x1, x2) lN lL lH = G at AX0 NX0
          obtain ⟨g, y1, y2⟩ := G
          simp only at AX0 NX0
          have HB := Lib.hid hB
          have H7 := Lib.hid h7
          have H2 := Lib.hid h2
          have H3 := Lib.hid h3
          have LX := Lib.hid LX0
          have hltr : w2.heap.size + 1 < wr.heap.size := h3.lt
          have HXK := Lib.hid hxk
          clear BLX hxk hL hB h7 h2 h3 LX0
          by_cases d1 : 100 < ln
          · have u1 : (100 : Int) < (ln : Int) := by omega
            go_wp2_with fail
            refine (HS.out _ (HFit.out _ HB.out)).mono ?_
            rintro e wS ⟨rfl, hB⟩
            have HBS := Lib.hid (HB.out.trans (hB.mono HB.out.size))
            clear hB
            go_wp2
            go_ret
            exact ⟨rfl, HBS.out⟩
          · have u1 : ¬ (100 : Int) < (ln : Int) := by omega
            by_cases d2 : lN < 1
            · have u2 : decide (lN < 1) = true := by simp; omega
              go_wp2_with fail
              refine (HS.out _ (HFit.out _ HB.out)).mono ?_
              rintro e wS ⟨rfl, hB⟩
              have HBS := Lib.hid (HB.out.trans (hB.mono HB.out.size))
              clear hB
              go_wp2
              go_ret
              exact ⟨rfl, HBS.out⟩
            · have u2 : decide (lN < 1) = false := by simp; omega
              have u2' : ¬ lN < 1 := d2
              by_cases d3 : 999999999 < lN
              · have u3 : decide (999999999 < lN) = true := by simp; omega
                go_wp2_with fail
                refine (HS.out _ (HFit.out _ HB.out)).mono ?_
                rintro e wS ⟨rfl, hB⟩
                have HBS := Lib.hid (HB.out.trans (hB.mono HB.out.size))
                clear hB
                go_wp2
                go_ret
                exact ⟨rfl, HBS.out⟩
              · have u3 : decide (999999999 < lN) = false := by simp; omega
                have u3' : ¬ 999999999 < lN := d3
                have AX := Lib.hid (fun W h => AX0 (by omega) (by omega) W h)
                have NX := Lib.hid (fun W h => NX0 (by omega) (by omega) W h)
                clear AX0 NX0 d1 d2 d3
                go_wp2_with fail
                refine wp_region_noPanic ?_
                refine wp_region_held_drew (S := fun w' => (w'.cell? ⟨w.heap.size, 0, none⟩ = some (.int .i64 ak) ∧ w'.cell? ⟨w.heap.size, 1, none⟩ = some (.int .i64 an) ∧ w'.cell? ⟨w.heap.size, 2, none⟩ = some (.int .i64 am) ∧ w'.cell? ⟨w.heap.size, 3, none⟩ = some (.int .i64 bk) ∧ w'.cell? ⟨w.heap.size, 4, none⟩ = some (.int .i64 bn) ∧ w'.cell? ⟨w.heap.size, 5, none⟩ = some (.int .i64 bm) ∧ w'.cell? ⟨w.heap.size, 6, none⟩ = some (.bool nt) ∧ w'.cell? ⟨w2.heap.size, 0, none⟩ = some (.bool x1) ∧ w'.cell? ⟨w2.heap.size, 1, none⟩ = some (.int .i64 x2) ∧ w'.cell? ⟨b, o + k * 3, none⟩ = some (.int .i64 lN) ∧ w'.cell? ⟨b, o + k * 3 + 1, none⟩ = some (.bool lL) ∧ w'.cell? ⟨b, o + k * 3 + 2, none⟩ = some (.slice lp ln lc)) ∧ Seven w' w.heap.size 25 (.int .i64 ak) (.int .i64 an) (.int .i64 am) (.int .i64 bk) (.int .i64 bn) (.int .i64 bm) (.bool nt) ∧ Two w' w2.heap.size 44 (.bool x1) (.int .i64 x2) ∧ Two w' (w2.heap.size + 1) 45 (.bool x1) (.int .i64 x2) ∧ Below w.heap.size w w') (by kernel_rfl) ?_ (fun hHeld => ?_)
                · (try dsimp only); exact ⟨⟨H7.out.drew.c0, H7.out.drew.c1, H7.out.drew.c2, H7.out.drew.c3, H7.out.drew.c4, H7.out.drew.c5, H7.out.drew.c6, H2.out.drew.c0, H2.out.drew.c1, l0, l1, l2⟩, H7.out.drew, H2.out.drew, H3.out.drew, HB.out.drew⟩
                refine wpAnyH_take (i := 0) (v := ?_) rfl (by kernel_rfl) (by kernel_rfl) (by kernel_rfl) (fun _ _ _ h => h) (Or.inl ⟨by kernel_rfl, ?_⟩) (by assumption) ?_
                rotate_left
                · (intro w hSw; (try dsimp only at hSw); (try obtain ⟨⟨c0, c1, c2, c3, c4, c5, c6, c7, c8, c9, c10, c11⟩, h7, h2, h3, hB⟩ := hSw); go_simp); (try with_reducible rfl)
                try simp only [Act.put, List.getElem_toArray, List.getElem_cons_succ, List.getElem_cons_zero, List.setIfInBounds_toArray, List.set_cons_zero, List.set_cons_succ]
                refine wpAnyH_take (i := 1) (v := ?_) rfl (by kernel_rfl) (by kernel_rfl) (by kernel_rfl) (fun _ _ _ h => h) (Or.inl ⟨by kernel_rfl, ?_⟩) (by assumption) ?_
                rotate_left
                · (intro w hSw; (try dsimp only at hSw); (try obtain ⟨⟨c0, c1, c2, c3, c4, c5, c6, c7, c8, c9, c10, c11⟩, h7, h2, h3, hB⟩ := hSw); go_simp); (try with_reducible rfl)
                try simp only [Act.put, List.getElem_toArray, List.getElem_cons_succ, List.getElem_cons_zero, List.setIfInBounds_toArray, List.set_cons_zero, List.set_cons_succ]
                refine wpAnyH_take (i := 2) (v := ?_) rfl (by kernel_rfl) (by kernel_rfl) (by kernel_rfl) (fun _ _ _ h => h) (Or.inl ⟨by kernel_rfl, ?_⟩) (by assumption) ?_
                rotate_left
                · (intro w hSw; (try dsimp only at hSw); (try obtain ⟨⟨c0, c1, c2, c3, c4, c5, c6, c7, c8, c9, c10, c11⟩, h7, h2, h3, hB⟩ := hSw); go_simp); (try with_reducible rfl)
                try simp only [Act.put, List.getElem_toArray, List.getElem_cons_succ, List.getElem_cons_zero, List.setIfInBounds_toArray, List.set_cons_zero, List.set_cons_succ]
                refine wpAnyH_take (i := 3) (v := ?_) rfl (by kernel_rfl) (by kernel_rfl) (by kernel_rfl) (fun _ _ _ h => h) (Or.inl ⟨by kernel_rfl, ?_⟩) (by assumption) ?_
                rotate_left
                · (intro w hSw; (try dsimp only at hSw); (try obtain ⟨⟨c0, c1, c2, c3, c4, c5, c6, c7, c8, c9, c10, c11⟩, h7, h2, h3, hB⟩ := hSw); go_simp); (try with_reducible rfl)
                try simp only [Act.put, List.getElem_toArray, List.getElem_cons_succ, List.getElem_cons_zero, List.setIfInBounds_toArray, List.set_cons_zero, List.set_cons_succ]
                refine wpAnyH_take (i := 4) (v := ?_) rfl (by kernel_rfl) (by kernel_rfl) (by kernel_rfl) (fun _ _ _ h => h) (Or.inl ⟨by kernel_rfl, ?_⟩) (by assumption) ?_
                rotate_left
                · (intro w hSw; (try dsimp only at hSw); (try obtain ⟨⟨c0, c1, c2, c3, c4, c5, c6, c7, c8, c9, c10, c11⟩, h7, h2, h3, hB⟩ := hSw); go_simp); (try with_reducible rfl)
                try simp only [Act.put, List.getElem_toArray, List.getElem_cons_succ, List.getElem_cons_zero, List.setIfInBounds_toArray, List.set_cons_zero, List.set_cons_succ]
                refine wpAnyH_take (i := 5) (v := ?_) rfl (by kernel_rfl) (by kernel_rfl) (by kernel_rfl) (fun _ _ _ h => h) (Or.inl ⟨by kernel_rfl, ?_⟩) (by assumption) ?_
                rotate_left
                · (intro w hSw; (try dsimp only at hSw); (try obtain ⟨⟨c0, c1, c2, c3, c4, c5, c6, c7, c8, c9, c10, c11⟩, h7, h2, h3, hB⟩ := hSw); go_simp); (try with_reducible rfl)
                try simp only [Act.put, List.getElem_toArray, List.getElem_cons_succ, List.getElem_cons_zero, List.setIfInBounds_toArray, List.set_cons_zero, List.set_cons_succ]
                refine wpAnyH_ready (rs := [6, 10]) (by kernel_rfl) (by simp) ?_
                refine AllReadyH.cons rfl (fun K hK => ?_) (AllReadyH.cons rfl (fun K hK => ?_) AllReadyH.nil)
                focus
                  go_simp
                  have hHn := hHeld
                  obtain ⟨⟨c0, c1, c2, c3, c4, c5, c6, c7, c8, c9, c10, c11⟩, h7, h2, h3, hB⟩ := hHn
                  refine (AX.out _ hB).mono ?_
                  rintro e wNa0 ⟨rfl, hBN⟩
                  clear c0 c1 c2 c3 c4 c5 c6 c7 c8 c9 c10 c11 h7 h2 h3 hB
                  refine hK.out _ _ ?_ (fun hHeld => ?_)
                  · (try dsimp only); obtain ⟨⟨c0, c1, c2, c3, c4, c5, c6, c7, c8, c9, c10, c11⟩, h7, h2, h3, hB⟩ := hHeld; exact ⟨⟨cell_keep hBN c0, cell_keep hBN c1, cell_keep hBN c2, cell_keep hBN c3, cell_keep hBN c4, cell_keep hBN c5, cell_keep hBN c6, cell_keep hBN c7, cell_keep hBN c8, cell_keep hBN c9, cell_keep hBN c10, cell_keep hBN c11⟩, h7.beside hBN, h2.beside hBN, h3.beside hBN, hB.trans (hBN.mono hB.size)⟩
                  clear hK K hBN
                  try simp only [Act.put, List.getElem_toArray, List.getElem_cons_succ, List.getElem_cons_zero, List.setIfInBounds_toArray, List.set_cons_zero, List.set_cons_succ]
                  refine wpAnyH_take (i := 7) (v := ?_) rfl (by kernel_rfl) (by kernel_rfl) (by kernel_rfl) (fun _ _ _ h => h) (Or.inl ⟨by kernel_rfl, ?_⟩) (by assumption) ?_
                  rotate_left
                  · (intro w hSw; (try dsimp only at hSw); (try obtain ⟨⟨c0, c1, c2, c3, c4, c5, c6, c7, c8, c9, c10, c11⟩, h7, h2, h3, hB⟩ := hSw); go_simp); (try with_reducible rfl)
                  try simp only [Act.put, List.getElem_toArray, List.getElem_cons_succ, List.getElem_cons_zero, List.setIfInBounds_toArray, List.set_cons_zero, List.set_cons_succ]
                  refine wpAnyH_take (i := 8) (v := ?_) rfl (by kernel_rfl) (by kernel_rfl) (by kernel_rfl) (fun _ _ _ h => h) (Or.inl ⟨by kernel_rfl, ?_⟩) (by assumption) ?_
                  rotate_left
                  · (intro w hSw; (try dsimp only at hSw); (try obtain ⟨⟨c0, c1, c2, c3, c4, c5, c6, c7, c8, c9, c10, c11⟩, h7, h2, h3, hB⟩ := hSw); go_simp); (try with_reducible rfl)
                  try simp only [Act.put, List.getElem_toArray, List.getElem_cons_succ, List.getElem_cons_zero, List.setIfInBounds_toArray, List.set_cons_zero, List.set_cons_succ]
                  refine wpAnyH_take (i := 9) (v := ?_) rfl (by kernel_rfl) (by kernel_rfl) (by kernel_rfl) (fun _ _ _ h => h) (Or.inl ⟨by kernel_rfl, ?_⟩) (by assumption) ?_
                  rotate_left
                  · (intro w hSw; (try dsimp only at hSw); (try obtain ⟨⟨c0, c1, c2, c3, c4, c5, c6, c7, c8, c9, c10, c11⟩, h7, h2, h3, hB⟩ := hSw); go_simp); (try with_reducible rfl)
                  try simp only [Act.put, List.getElem_toArray, List.getElem_cons_succ, List.getElem_cons_zero, List.setIfInBounds_toArray, List.set_cons_zero, List.set_cons_succ]
                  refine wpAnyH_ready (rs := [10]) (by kernel_rfl) (by simp) ?_
                  refine AllReadyH.cons rfl (fun K hK => ?_) ?_
                  rotate_left
                  · exact AllReadyH.nil
                  go_simp
                  have hQ : Two (wNa0.alloc (.cells #[.bool false, .int .i64 0] 44)) wNa0.heap.size 44 (.bool false) (.int .i64 0) := Two.new wNa0 44 (.bool false) (.int .i64 0)
                  have hqlt : w2.heap.size + 1 < wNa0.heap.size := by
                    obtain ⟨⟨c0, c1, c2, c3, c4, c5, c6, c7, c8, c9, c10, c11⟩, h7, h2, h3, hB⟩ := hHeld
                    exact h3.lt
                  have hBN := (Below.refl _ wNa0).alloc (Nat.le_refl _) (.cells #[.bool false, .int .i64 0] 44)
                  refine hK.out _ _ ?_ (fun hHeld => ?_)
                  · (try dsimp only); obtain ⟨⟨c0, c1, c2, c3, c4, c5, c6, c7, c8, c9, c10, c11⟩, h7, h2, h3, hB⟩ := hHeld; exact ⟨⟨cell_keep hBN c0, cell_keep hBN c1, cell_keep hBN c2, cell_keep hBN c3, cell_keep hBN c4, cell_keep hBN c5, cell_keep hBN c6, cell_keep hBN c7, cell_keep hBN c8, cell_keep hBN c9, cell_keep hBN c10, cell_keep hBN c11⟩, h7.beside hBN, h2.beside hBN, h3.beside hBN, hB.trans (hBN.mono hB.size)⟩
                  clear hK K hBN
                  try simp only [Act.put, List.getElem_toArray, List.getElem_cons_succ, List.getElem_cons_zero, List.setIfInBounds_toArray, List.set_cons_zero, List.set_cons_succ]
                  generalize (wNa0.alloc (.cells #[.bool false, .int .i64 0] 44)) = W3 at hHeld hQ ⊢
                  generalize wNa0.heap.size = q at hQ hqlt ⊢
                rotate_left 1
                focus
                  go_simp
                  have hQ : Two (wr.drew.alloc (.cells #[.bool false, .int .i64 0] 44)) wr.heap.size 44 (.bool false) (.int .i64 0) := Two.new wr.drew 44 (.bool false) (.int .i64 0)
                  have hqlt : w2.heap.size + 1 < wr.heap.size := by
                    obtain ⟨⟨c0, c1, c2, c3, c4, c5, c6, c7, c8, c9, c10, c11⟩, h7, h2, h3, hB⟩ := hHeld
                    exact h3.lt
                  have hBN := (Below.refl _ wr.drew).alloc (Nat.le_refl _) (.cells #[.bool false, .int .i64 0] 44)
                  refine hK.out _ _ ?_ (fun hHeld => ?_)
                  · (try dsimp only); obtain ⟨⟨c0, c1, c2, c3, c4, c5, c6, c7, c8, c9, c10, c11⟩, h7, h2, h3, hB⟩ := hHeld; exact ⟨⟨cell_keep hBN c0, cell_keep hBN c1, cell_keep hBN c2, cell_keep hBN c3, cell_keep hBN c4, cell_keep hBN c5, cell_keep hBN c6, cell_keep hBN c7, cell_keep hBN c8, cell_keep hBN c9, cell_keep hBN c10, cell_keep hBN c11⟩, h7.beside hBN, h2.beside hBN, h3.beside hBN, hB.trans (hBN.mono hB.size)⟩
                  clear hK K hBN
                  try simp only [Act.put, List.getElem_toArray, List.getElem_cons_succ, List.getElem_cons_zero, List.setIfInBounds_toArray, List.set_cons_zero, List.set_cons_succ]
                  refine wpAnyH_ready (rs := [6]) (by kernel_rfl) (by simp) ?_
                  refine AllReadyH.cons rfl (fun K hK => ?_) ?_
                  rotate_left
                  · exact AllReadyH.nil
                  go_simp
                  have hHn := hHeld
                  obtain ⟨⟨c0, c1, c2, c3, c4, c5, c6, c7, c8, c9, c10, c11⟩, h7, h2, h3, hB⟩ := hHn
                  refine (AX.out _ hB).mono ?_
                  rintro e wNa0 ⟨rfl, hBN⟩
                  clear c0 c1 c2 c3 c4 c5 c6 c7 c8 c9 c10 c11 h7 h2 h3 hB
                  have hQ := hQ.beside hBN
                  refine hK.out _ _ ?_ (fun hHeld => ?_)
                  · (try dsimp only); obtain ⟨⟨c0, c1, c2, c3, c4, c5, c6, c7, c8, c9, c10, c11⟩, h7, h2, h3, hB⟩ := hHeld; exact ⟨⟨cell_keep hBN c0, cell_keep hBN c1, cell_keep hBN c2, cell_keep hBN c3, cell_keep hBN c4, cell_keep hBN c5, cell_keep hBN c6, cell_keep hBN c7, cell_keep hBN c8, cell_keep hBN c9, cell_keep hBN c10, cell_keep hBN c11⟩, h7.beside hBN, h2.beside hBN, h3.beside hBN, hB.trans (hBN.mono hB.size)⟩
                  clear hK K hBN
                  try simp only [Act.put, List.getElem_toArray, List.getElem_cons_succ, List.getElem_cons_zero, List.setIfInBounds_toArray, List.set_cons_zero, List.set_cons_succ]
                  refine wpAnyH_take (i := 7) (v := ?_) rfl (by kernel_rfl) (by kernel_rfl) (by kernel_rfl) (fun _ _ _ h => h) (Or.inl ⟨by kernel_rfl, ?_⟩) (by assumption) ?_
                  rotate_left
                  · (intro w hSw; (try dsimp only at hSw); (try obtain ⟨⟨c0, c1, c2, c3, c4, c5, c6, c7, c8, c9, c10, c11⟩, h7, h2, h3, hB⟩ := hSw); go_simp); (try with_reducible rfl)
                  try simp only [Act.put, List.getElem_toArray, List.getElem_cons_succ, List.getElem_cons_zero, List.setIfInBounds_toArray, List.set_cons_zero, List.set_cons_succ]
                  refine wpAnyH_take (i := 8) (v := ?_) rfl (by kernel_rfl) (by kernel_rfl) (by kernel_rfl) (fun _ _ _ h => h) (Or.inl ⟨by kernel_rfl, ?_⟩) (by assumption) ?_
                  rotate_left
                  · (intro w hSw; (try dsimp only at hSw); (try obtain ⟨⟨c0, c1, c2, c3, c4, c5, c6, c7, c8, c9, c10, c11⟩, h7, h2, h3, hB⟩ := hSw); go_simp); (try with_reducible rfl)
                  try simp only [Act.put, List.getElem_toArray, List.getElem_cons_succ, List.getElem_cons_zero, List.setIfInBounds_toArray, List.set_cons_zero, List.set_cons_succ]
                  refine wpAnyH_take (i := 9) (v := ?_) rfl (by kernel_rfl) (by kernel_rfl) (by kernel_rfl) (fun _ _ _ h => h) (Or.inl ⟨by kernel_rfl, ?_⟩) (by assumption) ?_
                  rotate_left
                  · (intro w hSw; (try dsimp only at hSw); (try obtain ⟨⟨c0, c1, c2, c3, c4, c5, c6, c7, c8, c9, c10, c11⟩, h7, h2, h3, hB⟩ := hSw); go_simp); (try with_reducible rfl)
                  try simp only [Act.put, List.getElem_toArray, List.getElem_cons_succ, List.getElem_cons_zero, List.setIfInBounds_toArray, List.set_cons_zero, List.set_cons_succ]
                  generalize wNa0 = W3 at hHeld hQ ⊢
                  generalize wr.heap.size = q at hQ hqlt ⊢
                all_goals
                  refine wpAnyH_take (i := 11) (v := ?_) rfl (by kernel_rfl) (by kernel_rfl) (by kernel_rfl) (fun _ _ _ h => h) (Or.inl ⟨by kernel_rfl, ?_⟩) (by assumption) ?_
                  rotate_left
                  · (intro w hSw; (try dsimp only at hSw); (try obtain ⟨⟨c0, c1, c2, c3, c4, c5, c6, c7, c8, c9, c10, c11⟩, h7, h2, h3, hB⟩ := hSw); go_simp); (try with_reducible rfl)
                  try simp only [Act.put, List.getElem_toArray, List.getElem_cons_succ, List.getElem_cons_zero, List.setIfInBounds_toArray, List.set_cons_zero, List.set_cons_succ]
                  refine wpAnyH_ready (rs := [12]) (by kernel_rfl) (by simp) ?_
                  refine AllReadyH.cons rfl (fun K hK => ?_) ?_
                  rotate_left
                  · exact AllReadyH.nil
                  have hHn := hHeld
                  obtain ⟨⟨c0, c1, c2, c3, c4, c5, c6, c7, c8, c9, c10, c11⟩, h7, h2, h3, hB⟩ := hHn
                  have hQ4 := hQ.s (.bool y1) (.int .i64 y2)
                  have f0 := hQ.fz 0
                  have f1 := hQ.fz 1
                  have g0 := hQ.c0
                  have g1 := hQ.c1
                  have hKeep := And.intro ((h7.other (p := ⟨q, 0, none⟩) (by show _ ≠ q; omega) (.bool y1)).other (p := ⟨q, 1, none⟩) (by show _ ≠ q; omega) (.int .i64 y2)) (And.intro ((h2.other (p := ⟨q, 0, none⟩) (by show _ ≠ q; omega) (.bool y1)).other (p := ⟨q, 1, none⟩) (by show _ ≠ q; omega) (.int .i64 y2)) (And.intro ((h3.other (p := ⟨q, 0, none⟩) (by show _ ≠ q; omega) (.bool y1)).other (p := ⟨q, 1, none⟩) (by show _ ≠ q; omega) (.int .i64 y2)) (Below.set2 hB (b := q) (by omega) (.bool y1) (.int .i64 y2))))
                  go_simp
                  refine hK.out _ _ ?_ (fun hHeld => ?_)
                  · (try dsimp only); exact ⟨⟨cell_set2 c0 (by omega), cell_set2 c1 (by omega), cell_set2 c2 (by omega), cell_set2 c3 (by omega), cell_set2 c4 (by omega), cell_set2 c5 (by omega), cell_set2 c6 (by omega), cell_set2 c7 (by omega), cell_set2 c8 (by omega), cell_set2 c9 (by omega), cell_set2 c10 (by omega), cell_set2 c11 (by omega)⟩, hKeep.1, hKeep.2.1, hKeep.2.2.1, hKeep.2.2.2⟩
                  clear hK K f0 f1 g0 g1 hB hQ c0 c1 c2 c3 c4 c5 c6 c7 c8 c9 c10 c11 h7 h2 h3
                  try simp only [Act.put, List.getElem_toArray, List.getElem_cons_succ, List.getElem_cons_zero, List.setIfInBounds_toArray, List.set_cons_zero, List.set_cons_succ]
                  refine wpAnyH_done (by kernel_rfl) ?_ _
                  refine NoPanic.normal ?_
                  clear hHeld
                  generalize (W3.setCell ⟨q, 0, none⟩ (.bool y1)).setCell ⟨q, 1, none⟩ (.int .i64 y2) = W4 at hQ4 hKeep ⊢
                  obtain ⟨h7, h2, h3, hB⟩ := hKeep
                  obtain ⟨q1, hq1d⟩ : ∃ q1, q1 = q := ⟨_, rfl⟩
                  have hq1 := hqlt
                  rw [← hq1d] at hQ4 hq1
                  simp only [← hq1d]
                  clear hq1d hqlt
                  have l0' := ((HLS.out.below hB (Nat.le_refl _)).cell b o rfl k _ HXK.out).1
                  have l1' := ((HLS.out.below hB (Nat.le_refl _)).cell b o rfl k _ HXK.out).2.1
                  have l2' := ((HLS.out.below hB (Nat.le_refl _)).cell b o rfl k _ HXK.out).2.2
                  simp only at l0' l1' l2'
                  go_wp2_with fail
                  refine wp_region_noPanic ?_
                  refine wp_region_held_drew (S := fun w' => (w'.cell? ⟨w.heap.size, 0, none⟩ = some (.int .i64 ak) ∧ w'.cell? ⟨w.heap.size, 1, none⟩ = some (.int .i64 an) ∧ w'.cell? ⟨w.heap.size, 2, none⟩ = some (.int .i64 am) ∧ w'.cell? ⟨w.heap.size, 3, none⟩ = some (.int .i64 bk) ∧ w'.cell? ⟨w.heap.size, 4, none⟩ = some (.int .i64 bn) ∧ w'.cell? ⟨w.heap.size, 5, none⟩ = some (.int .i64 bm) ∧ w'.cell? ⟨w.heap.size, 6, none⟩ = some (.bool nt) ∧ w'.cell? ⟨(w2.heap.size + 1), 0, none⟩ = some (.bool x1) ∧ w'.cell? ⟨(w2.heap.size + 1), 1, none⟩ = some (.int .i64 x2) ∧ w'.cell? ⟨b, o + k * 3, none⟩ = some (.int .i64 lN) ∧ w'.cell? ⟨b, o + k * 3 + 1, none⟩ = some (.bool lL) ∧ w'.cell? ⟨b, o + k * 3 + 2, none⟩ = some (.slice lp ln lc)) ∧ Seven w' w.heap.size 25 (.int .i64 ak) (.int .i64 an) (.int .i64 am) (.int .i64 bk) (.int .i64 bn) (.int .i64 bm) (.bool nt) ∧ Two w' w2.heap.size 44 (.bool x1) (.int .i64 x2) ∧ Two w' (w2.heap.size + 1) 45 (.bool x1) (.int .i64 x2) ∧ Two w' q1 44 (.bool y1) (.int .i64 y2) ∧ Below w.heap.size w w') (by kernel_rfl) ?_ (fun hHeld => ?_)
                  · (try dsimp only); exact ⟨⟨h7.drew.c0, h7.drew.c1, h7.drew.c2, h7.drew.c3, h7.drew.c4, h7.drew.c5, h7.drew.c6, h3.drew.c0, h3.drew.c1, l0', l1', l2'⟩, h7.drew, h2.drew, h3.drew, hQ4.drew, hB.drew⟩
                  refine wpAnyH_take (i := 0) (v := ?_) rfl (by kernel_rfl) (by kernel_rfl) (by kernel_rfl) (fun _ _ _ h => h) (Or.inl ⟨by kernel_rfl, ?_⟩) (by assumption) ?_
                  rotate_left
                  · (intro w hSw; (try dsimp only at hSw); (try obtain ⟨⟨c0, c1, c2, c3, c4, c5, c6, c7, c8, c9, c10, c11⟩, h7, h2, h3, hq, hB⟩ := hSw); go_simp); (try with_reducible rfl)
                  try simp only [Act.put, List.getElem_toArray, List.getElem_cons_succ, List.getElem_cons_zero, List.setIfInBounds_toArray, List.set_cons_zero, List.set_cons_succ]
                  refine wpAnyH_take (i := 2) (v := ?_) rfl (by kernel_rfl) (by kernel_rfl) (by kernel_rfl) (fun _ _ _ h => h) (Or.inl ⟨by kernel_rfl, ?_⟩) (by assumption) ?_
                  rotate_left
                  · (intro w hSw; (try dsimp only at hSw); (try obtain ⟨⟨c0, c1, c2, c3, c4, c5, c6, c7, c8, c9, c10, c11⟩, h7, h2, h3, hq, hB⟩ := hSw); go_simp); (try with_reducible rfl)
                  try simp only [Act.put, List.getElem_toArray, List.getElem_cons_succ, List.getElem_cons_zero, List.setIfInBounds_toArray, List.set_cons_zero, List.set_cons_succ]
                  refine wpAnyH_take (i := 3) (v := ?_) rfl (by kernel_rfl) (by kernel_rfl) (by kernel_rfl) (fun _ _ _ h => h) (Or.inl ⟨by kernel_rfl, ?_⟩) (by assumption) ?_
                  rotate_left
                  · (intro w hSw; (try dsimp only at hSw); (try obtain ⟨⟨c0, c1, c2, c3, c4, c5, c6, c7, c8, c9, c10, c11⟩, h7, h2, h3, hq, hB⟩ := hSw); go_simp); (try with_reducible rfl)
                  try simp only [Act.put, List.getElem_toArray, List.getElem_cons_succ, List.getElem_cons_zero, List.setIfInBounds_toArray, List.set_cons_zero, List.set_cons_succ]
                  refine wpAnyH_take (i := 4) (v := ?_) rfl (by kernel_rfl) (by kernel_rfl) (by kernel_rfl) (fun _ _ _ h => h) (Or.inl ⟨by kernel_rfl, ?_⟩) (by assumption) ?_
                  rotate_left
                  · (intro w hSw; (try dsimp only at hSw); (try obtain ⟨⟨c0, c1, c2, c3, c4, c5, c6, c7, c8, c9, c10, c11⟩, h7, h2, h3, hq, hB⟩ := hSw); go_simp); (try with_reducible rfl)
                  try simp only [Act.put, List.getElem_toArray, List.getElem_cons_succ, List.getElem_cons_zero, List.setIfInBounds_toArray, List.set_cons_zero, List.set_cons_succ]
                  refine wpAnyH_take (i := 5) (v := ?_) rfl (by kernel_rfl) (by kernel_rfl) (by kernel_rfl) (fun _ _ _ h => h) (Or.inl ⟨by kernel_rfl, ?_⟩) (by assumption) ?_
                  rotate_left
                  · (intro w hSw; (try dsimp only at hSw); (try obtain ⟨⟨c0, c1, c2, c3, c4, c5, c6, c7, c8, c9, c10, c11⟩, h7, h2, h3, hq, hB⟩ := hSw); go_simp); (try with_reducible rfl)
                  try simp only [Act.put, List.getElem_toArray, List.getElem_cons_succ, List.getElem_cons_zero, List.setIfInBounds_toArray, List.set_cons_zero, List.set_cons_succ]
                  refine wpAnyH_take (i := 6) (v := ?_) rfl (by kernel_rfl) (by kernel_rfl) (by kernel_rfl) (fun _ _ _ h => h) (Or.inl ⟨by kernel_rfl, ?_⟩) (by assumption) ?_
                  rotate_left
                  · (intro w hSw; (try dsimp only at hSw); (try obtain ⟨⟨c0, c1, c2, c3, c4, c5, c6, c7, c8, c9, c10, c11⟩, h7, h2, h3, hq, hB⟩ := hSw); go_simp); (try with_reducible rfl)
                  try simp only [Act.put, List.getElem_toArray, List.getElem_cons_succ, List.getElem_cons_zero, List.setIfInBounds_toArray, List.set_cons_zero, List.set_cons_succ]
                  refine wpAnyH_ready (rs := [1, 12]) (by kernel_rfl) (by simp) ?_
                  refine AllReadyH.cons rfl (fun K hK => ?_) (AllReadyH.cons rfl (fun K hK => ?_) AllReadyH.nil)
                  focus
                    go_simp
                    have hHn := hHeld
                    obtain ⟨⟨c0, c1, c2, c3, c4, c5, c6, c7, c8, c9, c10, c11⟩, h7, h2, h3, hq, hB⟩ := hHn
                    refine (GG.out _).mono ?_
                    rintro e wNb0 ⟨rfl, hBN⟩
                    clear c0 c1 c2 c3 c4 c5 c6 c7 c8 c9 c10 c11 h7 h2 h3 hq hB
                    refine hK.out _ _ ?_ (fun hHeld => ?_)
                    · (try dsimp only); obtain ⟨⟨c0, c1, c2, c3, c4, c5, c6, c7, c8, c9, c10, c11⟩, h7, h2, h3, hq, hB⟩ := hHeld; exact ⟨⟨cell_keep hBN c0, cell_keep hBN c1, cell_keep hBN c2, cell_keep hBN c3, cell_keep hBN c4, cell_keep hBN c5, cell_keep hBN c6, cell_keep hBN c7, cell_keep hBN c8, cell_keep hBN c9, cell_keep hBN c10, cell_keep hBN c11⟩, h7.beside hBN, h2.beside hBN, h3.beside hBN, hq.beside hBN, hB.trans (hBN.mono hB.size)⟩
                    clear hK K hBN
                    try simp only [Act.put, List.getElem_toArray, List.getElem_cons_succ, List.getElem_cons_zero, List.setIfInBounds_toArray, List.set_cons_zero, List.set_cons_succ]
                    refine wpAnyH_ready (rs := [7, 12]) (by kernel_rfl) (by simp) ?_
                    refine AllReadyH.cons rfl (fun K hK => ?_) (AllReadyH.cons rfl (fun K hK => ?_) AllReadyH.nil)
                    focus
                      go_simp
                      have hHn := hHeld
                      obtain ⟨⟨c0, c1, c2, c3, c4, c5, c6, c7, c8, c9, c10, c11⟩, h7, h2, h3, hq, hB⟩ := hHn
                      refine (LX.out _).mono ?_
                      rintro e wNb1 ⟨rfl, hBN⟩
                      clear c0 c1 c2 c3 c4 c5 c6 c7 c8 c9 c10 c11 h7 h2 h3 hq hB
                      refine hK.out _ _ ?_ (fun hHeld => ?_)
                      · (try dsimp only); obtain ⟨⟨c0, c1, c2, c3, c4, c5, c6, c7, c8, c9, c10, c11⟩, h7, h2, h3, hq, hB⟩ := hHeld; exact ⟨⟨cell_keep hBN c0, cell_keep hBN c1, cell_keep hBN c2, cell_keep hBN c3, cell_keep hBN c4, cell_keep hBN c5, cell_keep hBN c6, cell_keep hBN c7, cell_keep hBN c8, cell_keep hBN c9, cell_keep hBN c10, cell_keep hBN c11⟩, h7.beside hBN, h2.beside hBN, h3.beside hBN, hq.beside hBN, hB.trans (hBN.mono hB.size)⟩
                      clear hK K hBN
                      try simp only [Act.put, List.getElem_toArray, List.getElem_cons_succ, List.getElem_cons_zero, List.setIfInBounds_toArray, List.set_cons_zero, List.set_cons_succ]
                      refine wpAnyH_ready (rs := [8, 12]) (by kernel_rfl) (by simp) ?_
                      refine AllReadyH.cons rfl (fun K hK => ?_) (AllReadyH.cons rfl (fun K hK => ?_) AllReadyH.nil)
                      focus
                        go_simp
                        have hHn := hHeld
                        obtain ⟨⟨c0, c1, c2, c3, c4, c5, c6, c7, c8, c9, c10, c11⟩, h7, h2, h3, hq, hB⟩ := hHn
                        refine (NX.out _ hB).mono ?_
                        rintro e wNb2 ⟨rfl, hBN⟩
                        clear c0 c1 c2 c3 c4 c5 c6 c7 c8 c9 c10 c11 h7 h2 h3 hq hB
                        refine hK.out _ _ ?_ (fun hHeld => ?_)
                        · (try dsimp only); obtain ⟨⟨c0, c1, c2, c3, c4, c5, c6, c7, c8, c9, c10, c11⟩, h7, h2, h3, hq, hB⟩ := hHeld; exact ⟨⟨cell_keep hBN c0, cell_keep hBN c1, cell_keep hBN c2, cell_keep hBN c3, cell_keep hBN c4, cell_keep hBN c5, cell_keep hBN c6, cell_keep hBN c7, cell_keep hBN c8, cell_keep hBN c9, cell_keep hBN c10, cell_keep hBN c11⟩, h7.beside hBN, h2.beside hBN, h3.beside hBN, hq.beside hBN, hB.trans (hBN.mono hB.size)⟩
                        clear hK K hBN
                        try simp only [Act.put, List.getElem_toArray, List.getElem_cons_succ, List.getElem_cons_zero, List.setIfInBounds_toArray, List.set_cons_zero, List.set_cons_succ]
                        refine wpAnyH_take (i := 9) (v := ?_) rfl (by kernel_rfl) (by kernel_rfl) (by kernel_rfl) (fun _ _ _ h => h) (Or.inl ⟨by kernel_rfl, ?_⟩) (by assumption) ?_
                        rotate_left
                        · (intro w hSw; (try dsimp only at hSw); (try obtain ⟨⟨c0, c1, c2, c3, c4, c5, c6, c7, c8, c9, c10, c11⟩, h7, h2, h3, hq, hB⟩ := hSw); go_simp); (try with_reducible rfl)
                        try simp only [Act.put, List.getElem_toArray, List.getElem_cons_succ, List.getElem_cons_zero, List.setIfInBounds_toArray, List.set_cons_zero, List.set_cons_succ]
                        refine wpAnyH_take (i := 10) (v := ?_) rfl (by kernel_rfl) (by kernel_rfl) (by kernel_rfl) (fun _ _ _ h => h) (Or.inl ⟨by kernel_rfl, ?_⟩) (by assumption) ?_
                        rotate_left
                        · (intro w hSw; (try dsimp only at hSw); (try obtain ⟨⟨c0, c1, c2, c3, c4, c5, c6, c7, c8, c9, c10, c11⟩, h7, h2, h3, hq, hB⟩ := hSw); go_simp); (try with_reducible rfl)
                        try simp only [Act.put, List.getElem_toArray, List.getElem_cons_succ, List.getElem_cons_zero, List.setIfInBounds_toArray, List.set_cons_zero, List.set_cons_succ]
                        refine wpAnyH_take (i := 11) (v := ?_) rfl (by kernel_rfl) (by kernel_rfl) (by kernel_rfl) (fun _ _ _ h => h) (Or.inl ⟨by kernel_rfl, ?_⟩) (by assumption) ?_
                        rotate_left
                        · (intro w hSw; (try dsimp only at hSw); (try obtain ⟨⟨c0, c1, c2, c3, c4, c5, c6, c7, c8, c9, c10, c11⟩, h7, h2, h3, hq, hB⟩ := hSw); go_simp); (try with_reducible rfl)
                        try simp only [Act.put, List.getElem_toArray, List.getElem_cons_succ, List.getElem_cons_zero, List.setIfInBounds_toArray, List.set_cons_zero, List.set_cons_succ]
                        refine wpAnyH_ready (rs := [12]) (by kernel_rfl) (by simp) ?_
                        refine AllReadyH.cons rfl (fun K hK => ?_) ?_
                        rotate_left
                        · exact AllReadyH.nil
                        go_simp
                        have hQ : Two (wNb2.alloc (.cells #[.bool false, .int .i64 0] 45)) wNb2.heap.size 45 (.bool false) (.int .i64 0) := Two.new wNb2 45 (.bool false) (.int .i64 0)
                        have hqlt : q1 < wNb2.heap.size := by
                          obtain ⟨⟨c0, c1, c2, c3, c4, c5, c6, c7, c8, c9, c10, c11⟩, h7, h2, h3, hq, hB⟩ := hHeld
                          exact hq.lt
                        have hBN := (Below.refl _ wNb2).alloc (Nat.le_refl _) (.cells #[.bool false, .int .i64 0] 45)
                        refine hK.out _ _ ?_ (fun hHeld => ?_)
                        · (try dsimp only); obtain ⟨⟨c0, c1, c2, c3, c4, c5, c6, c7, c8, c9, c10, c11⟩, h7, h2, h3, hq, hB⟩ := hHeld; exact ⟨⟨cell_keep hBN c0, cell_keep hBN c1, cell_keep hBN c2, cell_keep hBN c3, cell_keep hBN c4, cell_keep hBN c5, cell_keep hBN c6, cell_keep hBN c7, cell_keep hBN c8, cell_keep hBN c9, cell_keep hBN c10, cell_keep hBN c11⟩, h7.beside hBN, h2.beside hBN, h3.beside hBN, hq.beside hBN, hB.trans (hBN.mono hB.size)⟩
                        clear hK K hBN
                        try simp only [Act.put, List.getElem_toArray, List.getElem_cons_succ, List.getElem_cons_zero, List.setIfInBounds_toArray, List.set_cons_zero, List.set_cons_succ]
                        generalize (wNb2.alloc (.cells #[.bool false, .int .i64 0] 45)) = W3 at hHeld hQ ⊢
                        generalize wNb2.heap.size = q at hQ hqlt ⊢
                      rotate_left 1
                      focus
                        go_simp
                        have hQ : Two (wNb1.alloc (.cells #[.bool false, .int .i64 0] 45)) wNb1.heap.size 45 (.bool false) (.int .i64 0) := Two.new wNb1 45 (.bool false) (.int .i64 0)
                        have hqlt : q1 < wNb1.heap.size := by
                          obtain ⟨⟨c0, c1, c2, c3, c4, c5, c6, c7, c8, c9, c10, c11⟩, h7, h2, h3, hq, hB⟩ := hHeld
                          exact hq.lt
                        have hBN := (Below.refl _ wNb1).alloc (Nat.le_refl _) (.cells #[.bool false, .int .i64 0] 45)
                        refine hK.out _ _ ?_ (fun hHeld => ?_)
                        · (try dsimp only); obtain ⟨⟨c0, c1, c2, c3, c4, c5, c6, c7, c8, c9, c10, c11⟩, h7, h2, h3, hq, hB⟩ := hHeld; exact ⟨⟨cell_keep hBN c0, cell_keep hBN c1, cell_keep hBN c2, cell_keep hBN c3, cell_keep hBN c4, cell_keep hBN c5, cell_keep hBN c6, cell_keep hBN c7, cell_keep hBN c8, cell_keep hBN c9, cell_keep hBN c10, cell_keep hBN c11⟩, h7.beside hBN, h2.beside hBN, h3.beside hBN, hq.beside hBN, hB.trans (hBN.mono hB.size)⟩
                        clear hK K hBN
                        try simp only [Act.put, List.getElem_toArray, List.getElem_cons_succ, List.getElem_cons_zero, List.setIfInBounds_toArray, List.set_cons_zero, List.set_cons_succ]
                        refine wpAnyH_ready (rs := [8]) (by kernel_rfl) (by simp) ?_
                        refine AllReadyH.cons rfl (fun K hK => ?_) ?_
                        rotate_left
                        · exact AllReadyH.nil
                        go_simp
                        have hHn := hHeld
                        obtain ⟨⟨c0, c1, c2, c3, c4, c5, c6, c7, c8, c9, c10, c11⟩, h7, h2, h3, hq, hB⟩ := hHn
                        refine (NX.out _ hB).mono ?_
                        rintro e wNb2 ⟨rfl, hBN⟩
                        clear c0 c1 c2 c3 c4 c5 c6 c7 c8 c9 c10 c11 h7 h2 h3 hq hB
                        have hQ := hQ.beside hBN
                        refine hK.out _ _ ?_ (fun hHeld => ?_)
                        · (try dsimp only); obtain ⟨⟨c0, c1, c2, c3, c4, c5, c6, c7, c8, c9, c10, c11⟩, h7, h2, h3, hq, hB⟩ := hHeld; exact ⟨⟨cell_keep hBN c0, cell_keep hBN c1, cell_keep hBN c2, cell_keep hBN c3, cell_keep hBN c4, cell_keep hBN c5, cell_keep hBN c6, cell_keep hBN c7, cell_keep hBN c8, cell_keep hBN c9, cell_keep hBN c10, cell_keep hBN c11⟩, h7.beside hBN, h2.beside hBN, h3.beside hBN, hq.beside hBN, hB.trans (hBN.mono hB.size)⟩
                        clear hK K hBN
                        try simp only [Act.put, List.getElem_toArray, List.getElem_cons_succ, List.getElem_cons_zero, List.setIfInBounds_toArray, List.set_cons_zero, List.set_cons_succ]
                        refine wpAnyH_take (i := 9) (v := ?_) rfl (by kernel_rfl) (by kernel_rfl) (by kernel_rfl) (fun _ _ _ h => h) (Or.inl ⟨by kernel_rfl, ?_⟩) (by assumption) ?_
                        rotate_left
                        · (intro w hSw; (try dsimp only at hSw); (try obtain ⟨⟨c0, c1, c2, c3, c4, c5, c6, c7, c8, c9, c10, c11⟩, h7, h2, h3, hq, hB⟩ := hSw); go_simp); (try with_reducible rfl)
                        try simp only [Act.put, List.getElem_toArray, List.getElem_cons_succ, List.getElem_cons_zero, List.setIfInBounds_toArray, List.set_cons_zero, List.set_cons_succ]
                        refine wpAnyH_take (i := 10) (v := ?_) rfl (by kernel_rfl) (by kernel_rfl) (by kernel_rfl) (fun _ _ _ h => h) (Or.inl ⟨by kernel_rfl, ?_⟩) (by assumption) ?_
                        rotate_left
                        · (intro w hSw; (try dsimp only at hSw); (try obtain ⟨⟨c0, c1, c2, c3, c4, c5, c6, c7, c8, c9, c10, c11⟩, h7, h2, h3, hq, hB⟩ := hSw); go_simp); (try with_reducible rfl)
                        try simp only [Act.put, List.getElem_toArray, List.getElem_cons_succ, List.getElem_cons_zero, List.setIfInBounds_toArray, List.set_cons_zero, List.set_cons_succ]
                        refine wpAnyH_take (i := 11) (v := ?_) rfl (by kernel_rfl) (by kernel_rfl) (by kernel_rfl) (fun _ _ _ h => h) (Or.inl ⟨by kernel_rfl, ?_⟩) (by assumption) ?_
                        rotate_left
                        · (intro w hSw; (try dsimp only at hSw); (try obtain ⟨⟨c0, c1, c2, c3, c4, c5, c6, c7, c8, c9, c10, c11⟩, h7, h2, h3, hq, hB⟩ := hSw); go_simp); (try with_reducible rfl)
                        try simp only [Act.put, List.getElem_toArray, List.getElem_cons_succ, List.getElem_cons_zero, List.setIfInBounds_toArray, List.set_cons_zero, List.set_cons_succ]
                        generalize wNb2 = W3 at hHeld hQ ⊢
                        generalize wNb1.heap.size = q at hQ hqlt ⊢
                    rotate_left 2
                    focus
                      go_simp
                      have hQ : Two (wNb0.alloc (.cells #[.bool false, .int .i64 0] 45)) wNb0.heap.size 45 (.bool false) (.int .i64 0) := Two.new wNb0 45 (.bool false) (.int .i64 0)
                      have hqlt : q1 < wNb0.heap.size := by
                        obtain ⟨⟨c0, c1, c2, c3, c4, c5, c6, c7, c8, c9, c10, c11⟩, h7, h2, h3, hq, hB⟩ := hHeld
                        exact hq.lt
                      have hBN := (Below.refl _ wNb0).alloc (Nat.le_refl _) (.cells #[.bool false, .int .i64 0] 45)
                      refine hK.out _ _ ?_ (fun hHeld => ?_)
                      · (try dsimp only); obtain ⟨⟨c0, c1, c2, c3, c4, c5, c6, c7, c8, c9, c10, c11⟩, h7, h2, h3, hq, hB⟩ := hHeld; exact ⟨⟨cell_keep hBN c0, cell_keep hBN c1, cell_keep hBN c2, cell_keep hBN c3, cell_keep hBN c4, cell_keep hBN c5, cell_keep hBN c6, cell_keep hBN c7, cell_keep hBN c8, cell_keep hBN c9, cell_keep hBN c10, cell_keep hBN c11⟩, h7.beside hBN, h2.beside hBN, h3.beside hBN, hq.beside hBN, hB.trans (hBN.mono hB.size)⟩
                      clear hK K hBN
                      try simp only [Act.put, List.getElem_toArray, List.getElem_cons_succ, List.getElem_cons_zero, List.setIfInBounds_toArray, List.set_cons_zero, List.set_cons_succ]
                      refine wpAnyH_ready (rs := [7]) (by kernel_rfl) (by simp) ?_
                      refine AllReadyH.cons rfl (fun K hK => ?_) ?_
                      rotate_left
                      · exact AllReadyH.nil
                      go_simp
                      have hHn := hHeld
                      obtain ⟨⟨c0, c1, c2, c3, c4, c5, c6, c7, c8, c9, c10, c11⟩, h7, h2, h3, hq, hB⟩ := hHn
                      refine (LX.out _).mono ?_
                      rintro e wNb1 ⟨rfl, hBN⟩
                      clear c0 c1 c2 c3 c4 c5 c6 c7 c8 c9 c10 c11 h7 h2 h3 hq hB
                      have hQ := hQ.beside hBN
                      refine hK.out _ _ ?_ (fun hHeld => ?_)
                      · (try dsimp only); obtain ⟨⟨c0, c1, c2, c3, c4, c5, c6, c7, c8, c9, c10, c11⟩, h7, h2, h3, hq, hB⟩ := hHeld; exact ⟨⟨cell_keep hBN c0, cell_keep hBN c1, cell_keep hBN c2, cell_keep hBN c3, cell_keep hBN c4, cell_keep hBN c5, cell_keep hBN c6, cell_keep hBN c7, cell_keep hBN c8, cell_keep hBN c9, cell_keep hBN c10, cell_keep hBN c11⟩, h7.beside hBN, h2.beside hBN, h3.beside hBN, hq.beside hBN, hB.trans (hBN.mono hB.size)⟩
                      clear hK K hBN
                      try simp only [Act.put, List.getElem_toArray, List.getElem_cons_succ, List.getElem_cons_zero, List.setIfInBounds_toArray, List.set_cons_zero, List.set_cons_succ]
                      refine wpAnyH_ready (rs := [8]) (by kernel_rfl) (by simp) ?_
                      refine AllReadyH.cons rfl (fun K hK => ?_) ?_
                      rotate_left
                      · exact AllReadyH.nil
                      go_simp
                      have hHn := hHeld
                      obtain ⟨⟨c0, c1, c2, c3, c4, c5, c6, c7, c8, c9, c10, c11⟩, h7, h2, h3, hq, hB⟩ := hHn
                      refine (NX.out _ hB).mono ?_
                      rintro e wNb2 ⟨rfl, hBN⟩
                      clear c0 c1 c2 c3 c4 c5 c6 c7 c8 c9 c10 c11 h7 h2 h3 hq hB
                      have hQ := hQ.beside hBN
                      refine hK.out _ _ ?_ (fun hHeld => ?_)
                      · (try dsimp only); obtain ⟨⟨c0, c1, c2, c3, c4, c5, c6, c7, c8, c9, c10, c11⟩, h7, h2, h3, hq, hB⟩ := hHeld; exact ⟨⟨cell_keep hBN c0, cell_keep hBN c1, cell_keep hBN c2, cell_keep hBN c3, cell_keep hBN c4, cell_keep hBN c5, cell_keep hBN c6, cell_keep hBN c7, cell_keep hBN c8, cell_keep hBN c9, cell_keep hBN c10, cell_keep hBN c11⟩, h7.beside hBN, h2.beside hBN, h3.beside hBN, hq.beside hBN, hB.trans (hBN.mono hB.size)⟩
                      clear hK K hBN
                      try simp only [Act.put, List.getElem_toArray, List.getElem_cons_succ, List.getElem_cons_zero, List.setIfInBounds_toArray, List.set_cons_zero, List.set_cons_succ]
                      refine wpAnyH_take (i := 9) (v := ?_) rfl (by kernel_rfl) (by kernel_rfl) (by kernel_rfl) (fun _ _ _ h => h) (Or.inl ⟨by kernel_rfl, ?_⟩) (by assumption) ?_
                      rotate_left
                      · (intro w hSw; (try dsimp only at hSw); (try obtain ⟨⟨c0, c1, c2, c3, c4, c5, c6, c7, c8, c9, c10, c11⟩, h7, h2, h3, hq, hB⟩ := hSw); go_simp); (try with_reducible rfl)
                      try simp only [Act.put, List.getElem_toArray, List.getElem_cons_succ, List.getElem_cons_zero, List.setIfInBounds_toArray, List.set_cons_zero, List.set_cons_succ]
                      refine wpAnyH_take (i := 10) (v := ?_) rfl (by kernel_rfl) (by kernel_rfl) (by kernel_rfl) (fun _ _ _ h => h) (Or.inl ⟨by kernel_rfl, ?_⟩) (by assumption) ?_
                      rotate_left
                      · (intro w hSw; (try dsimp only at hSw); (try obtain ⟨⟨c0, c1, c2, c3, c4, c5, c6, c7, c8, c9, c10, c11⟩, h7, h2, h3, hq, hB⟩ := hSw); go_simp); (try with_reducible rfl)
                      try simp only [Act.put, List.getElem_toArray, List.getElem_cons_succ, List.getElem_cons_zero, List.setIfInBounds_toArray, List.set_cons_zero, List.set_cons_succ]
                      refine wpAnyH_take (i := 11) (v := ?_) rfl (by kernel_rfl) (by kernel_rfl) (by kernel_rfl) (fun _ _ _ h => h) (Or.inl ⟨by kernel_rfl, ?_⟩) (by assumption) ?_
                      rotate_left
                      · (intro w hSw; (try dsimp only at hSw); (try obtain ⟨⟨c0, c1, c2, c3, c4, c5, c6, c7, c8, c9, c10, c11⟩, h7, h2, h3, hq, hB⟩ := hSw); go_simp); (try with_reducible rfl)
                      try simp only [Act.put, List.getElem_toArray, List.getElem_cons_succ, List.getElem_cons_zero, List.setIfInBounds_toArray, List.set_cons_zero, List.set_cons_succ]
                      generalize wNb2 = W3 at hHeld hQ ⊢
                      generalize wNb0.heap.size = q at hQ hqlt ⊢
                  rotate_left 3
                  focus
                    go_simp
                    have hQ : Two (W4.drew.alloc (.cells #[.bool false, .int .i64 0] 45)) W4.heap.size 45 (.bool false) (.int .i64 0) := Two.new W4.drew 45 (.bool false) (.int .i64 0)
                    have hqlt : q1 < W4.heap.size := by
                      obtain ⟨⟨c0, c1, c2, c3, c4, c5, c6, c7, c8, c9, c10, c11⟩, h7, h2, h3, hq, hB⟩ := hHeld
                      exact hq.lt
                    have hBN := (Below.refl _ W4.drew).alloc (Nat.le_refl _) (.cells #[.bool false, .int .i64 0] 45)
                    refine hK.out _ _ ?_ (fun hHeld => ?_)
                    · (try dsimp only); obtain ⟨⟨c0, c1, c2, c3, c4, c5, c6, c7, c8, c9, c10, c11⟩, h7, h2, h3, hq, hB⟩ := hHeld; exact ⟨⟨cell_keep hBN c0, cell_keep hBN c1, cell_keep hBN c2, cell_keep hBN c3, cell_keep hBN c4, cell_keep hBN c5, cell_keep hBN c6, cell_keep hBN c7, cell_keep hBN c8, cell_keep hBN c9, cell_keep hBN c10, cell_keep hBN c11⟩, h7.beside hBN, h2.beside hBN, h3.beside hBN, hq.beside hBN, hB.trans (hBN.mono hB.size)⟩
                    clear hK K hBN
                    try simp only [Act.put, List.getElem_toArray, List.getElem_cons_succ, List.getElem_cons_zero, List.setIfInBounds_toArray, List.set_cons_zero, List.set_cons_succ]
                    refine wpAnyH_ready (rs := [1]) (by kernel_rfl) (by simp) ?_
                    refine AllReadyH.cons rfl (fun K hK => ?_) ?_
                    rotate_left
                    · exact AllReadyH.nil
                    go_simp
                    have hHn := hHeld
                    obtain ⟨⟨c0, c1, c2, c3, c4, c5, c6, c7, c8, c9, c10, c11⟩, h7, h2, h3, hq, hB⟩ := hHn
                    refine (GG.out _).mono ?_
                    rintro e wNb0 ⟨rfl, hBN⟩
                    clear c0 c1 c2 c3 c4 c5 c6 c7 c8 c9 c10 c11 h7 h2 h3 hq hB
                    have hQ := hQ.beside hBN
                    refine hK.out _ _ ?_ (fun hHeld => ?_)
                    · (try dsimp only); obtain ⟨⟨c0, c1, c2, c3, c4, c5, c6, c7, c8, c9, c10, c11⟩, h7, h2, h3, hq, hB⟩ := hHeld; exact ⟨⟨cell_keep hBN c0, cell_keep hBN c1, cell_keep hBN c2, cell_keep hBN c3, cell_keep hBN c4, cell_keep hBN c5, cell_keep hBN c6, cell_keep hBN c7, cell_keep hBN c8, cell_keep hBN c9, cell_keep hBN c10, cell_keep hBN c11⟩, h7.beside hBN, h2.beside hBN, h3.beside hBN, hq.beside hBN, hB.trans (hBN.mono hB.size)⟩
                    clear hK K hBN
                    try simp only [Act.put, List.getElem_toArray, List.getElem_cons_succ, List.getElem_cons_zero, List.setIfInBounds_toArray, List.set_cons_zero, List.set_cons_succ]
                    refine wpAnyH_ready (rs := [7]) (by kernel_rfl) (by simp) ?_
                    refine AllReadyH.cons rfl (fun K hK => ?_) ?_
                    rotate_left
                    · exact AllReadyH.nil
                    go_simp
                    have hHn := hHeld
                    obtain ⟨⟨c0, c1, c2, c3, c4, c5, c6, c7, c8, c9, c10, c11⟩, h7, h2, h3, hq, hB⟩ := hHn
                    refine (LX.out _).mono ?_
                    rintro e wNb1 ⟨rfl, hBN⟩
                    clear c0 c1 c2 c3 c4 c5 c6 c7 c8 c9 c10 c11 h7 h2 h3 hq hB
                    have hQ := hQ.beside hBN
                    refine hK.out _ _ ?_ (fun hHeld => ?_)
                    · (try dsimp only); obtain ⟨⟨c0, c1, c2, c3, c4, c5, c6, c7, c8, c9, c10, c11⟩, h7, h2, h3, hq, hB⟩ := hHeld; exact ⟨⟨cell_keep hBN c0, cell_keep hBN c1, cell_keep hBN c2, cell_keep hBN c3, cell_keep hBN c4, cell_keep hBN c5, cell_keep hBN c6, cell_keep hBN c7, cell_keep hBN c8, cell_keep hBN c9, cell_keep hBN c10, cell_keep hBN c11⟩, h7.beside hBN, h2.beside hBN, h3.beside hBN, hq.beside hBN, hB.trans (hBN.mono hB.size)⟩
                    clear hK K hBN
                    try simp only [Act.put, List.getElem_toArray, List.getElem_cons_succ, List.getElem_cons_zero, List.setIfInBounds_toArray, List.set_cons_zero, List.set_cons_succ]
                    refine wpAnyH_ready (rs := [8]) (by kernel_rfl) (by simp) ?_
                    refine AllReadyH.cons rfl (fun K hK => ?_) ?_
                    rotate_left
                    · exact AllReadyH.nil
                    go_simp
                    have hHn := hHeld
                    obtain ⟨⟨c0, c1, c2, c3, c4, c5, c6, c7, c8, c9, c10, c11⟩, h7, h2, h3, hq, hB⟩ := hHn
                    refine (NX.out _ hB).mono ?_
                    rintro e wNb2 ⟨rfl, hBN⟩
                    clear c0 c1 c2 c3 c4 c5 c6 c7 c8 c9 c10 c11 h7 h2 h3 hq hB
                    have hQ := hQ.beside hBN
                    refine hK.out _ _ ?_ (fun hHeld => ?_)
                    · (try dsimp only); obtain ⟨⟨c0, c1, c2, c3, c4, c5, c6, c7, c8, c9, c10, c11⟩, h7, h2, h3, hq, hB⟩ := hHeld; exact ⟨⟨cell_keep hBN c0, cell_keep hBN c1, cell_keep hBN c2, cell_keep hBN c3, cell_keep hBN c4, cell_keep hBN c5, cell_keep hBN c6, cell_keep hBN c7, cell_keep hBN c8, cell_keep hBN c9, cell_keep hBN c10, cell_keep hBN c11⟩, h7.beside hBN, h2.beside hBN, h3.beside hBN, hq.beside hBN, hB.trans (hBN.mono hB.size)⟩
                    clear hK K hBN
                    try simp only [Act.put, List.getElem_toArray, List.getElem_cons_succ, List.getElem_cons_zero, List.setIfInBounds_toArray, List.set_cons_zero, List.set_cons_succ]
                    refine wpAnyH_take (i := 9) (v := ?_) rfl (by kernel_rfl) (by kernel_rfl) (by kernel_rfl) (fun _ _ _ h => h) (Or.inl ⟨by kernel_rfl, ?_⟩) (by assumption) ?_
                    rotate_left
                    · (intro w hSw; (try dsimp only at hSw); (try obtain ⟨⟨c0, c1, c2, c3, c4, c5, c6, c7, c8, c9, c10, c11⟩, h7, h2, h3, hq, hB⟩ := hSw); go_simp); (try with_reducible rfl)
                    try simp only [Act.put, List.getElem_toArray, List.getElem_cons_succ, List.getElem_cons_zero, List.setIfInBounds_toArray, List.set_cons_zero, List.set_cons_succ]
                    refine wpAnyH_take (i := 10) (v := ?_) rfl (by kernel_rfl) (by kernel_rfl) (by kernel_rfl) (fun _ _ _ h => h) (Or.inl ⟨by kernel_rfl, ?_⟩) (by assumption) ?_
                    rotate_left
                    · (intro w hSw; (try dsimp only at hSw); (try obtain ⟨⟨c0, c1, c2, c3, c4, c5, c6, c7, c8, c9, c10, c11⟩, h7, h2, h3, hq, hB⟩ := hSw); go_simp); (try with_reducible rfl)
                    try simp only [Act.put, List.getElem_toArray, List.getElem_cons_succ, List.getElem_cons_zero, List.setIfInBounds_toArray, List.set_cons_zero, List.set_cons_succ]
                    refine wpAnyH_take (i := 11) (v := ?_) rfl (by kernel_rfl) (by kernel_rfl) (by kernel_rfl) (fun _ _ _ h => h) (Or.inl ⟨by kernel_rfl, ?_⟩) (by assumption) ?_
                    rotate_left
                    · (intro w hSw; (try dsimp only at hSw); (try obtain ⟨⟨c0, c1, c2, c3, c4, c5, c6, c7, c8, c9, c10, c11⟩, h7, h2, h3, hq, hB⟩ := hSw); go_simp); (try with_reducible rfl)
                    try simp only [Act.put, List.getElem_toArray, List.getElem_cons_succ, List.getElem_cons_zero, List.setIfInBounds_toArray, List.set_cons_zero, List.set_cons_succ]
                    generalize wNb2 = W3 at hHeld hQ ⊢
                    generalize W4.heap.size = q at hQ hqlt ⊢
                  all_goals
                    refine wpAnyH_take (i := 13) (v := ?_) rfl (by kernel_rfl) (by kernel_rfl) (by kernel_rfl) (fun _ _ _ h => h) (Or.inl ⟨by kernel_rfl, ?_⟩) (by assumption) ?_
                    rotate_left
                    · (intro w hSw; (try dsimp only at hSw); (try obtain ⟨⟨c0, c1, c2, c3, c4, c5, c6, c7, c8, c9, c10, c11⟩, h7, h2, h3, hq, hB⟩ := hSw); go_simp); (try with_reducible rfl)
                    try simp only [Act.put, List.getElem_toArray, List.getElem_cons_succ, List.getElem_cons_zero, List.setIfInBounds_toArray, List.set_cons_zero, List.set_cons_succ]
                    refine wpAnyH_ready (rs := [14]) (by kernel_rfl) (by simp) ?_
                    refine AllReadyH.cons rfl (fun K hK => ?_) ?_
                    rotate_left
                    · exact AllReadyH.nil
                    have hHn := hHeld
                    obtain ⟨⟨c0, c1, c2, c3, c4, c5, c6, c7, c8, c9, c10, c11⟩, h7, h2, h3, hq, hB⟩ := hHn
                    have hQ4 := hQ.s (.bool y1) (.int .i64 y2)
                    have f0 := hQ.fz 0
                    have f1 := hQ.fz 1
                    have g0 := hQ.c0
                    have g1 := hQ.c1
                    have hKeep := And.intro ((h7.other (p := ⟨q, 0, none⟩) (by show _ ≠ q; omega) (.bool y1)).other (p := ⟨q, 1, none⟩) (by show _ ≠ q; omega) (.int .i64 y2)) (And.intro ((h2.other (p := ⟨q, 0, none⟩) (by show _ ≠ q; omega) (.bool y1)).other (p := ⟨q, 1, none⟩) (by show _ ≠ q; omega) (.int .i64 y2)) (And.intro ((h3.other (p := ⟨q, 0, none⟩) (by show _ ≠ q; omega) (.bool y1)).other (p := ⟨q, 1, none⟩) (by show _ ≠ q; omega) (.int .i64 y2)) (And.intro ((hq.other (p := ⟨q, 0, none⟩) (by show _ ≠ q; omega) (.bool y1)).other (p := ⟨q, 1, none⟩) (by show _ ≠ q; omega) (.int .i64 y2)) (Below.set2 hB (b := q) (by omega) (.bool y1) (.int .i64 y2)))))
                    go_simp
                    refine hK.out _ _ ?_ (fun hHeld => ?_)
                    · (try dsimp only); exact ⟨⟨cell_set2 c0 (by omega), cell_set2 c1 (by omega), cell_set2 c2 (by omega), cell_set2 c3 (by omega), cell_set2 c4 (by omega), cell_set2 c5 (by omega), cell_set2 c6 (by omega), cell_set2 c7 (by omega), cell_set2 c8 (by omega), cell_set2 c9 (by omega), cell_set2 c10 (by omega), cell_set2 c11 (by omega)⟩, hKeep.1, hKeep.2.1, hKeep.2.2.1, hKeep.2.2.2.1, hKeep.2.2.2.2⟩
                    clear hK K f0 f1 g0 g1 hB hQ c0 c1 c2 c3 c4 c5 c6 c7 c8 c9 c10 c11 h7 h2 h3 hq
                    try simp only [Act.put, List.getElem_toArray, List.getElem_cons_succ, List.getElem_cons_zero, List.setIfInBounds_toArray, List.set_cons_zero, List.set_cons_succ]
                    refine wpAnyH_done (by kernel_rfl) ?_ _
                    refine NoPanic.normal ?_
                    clear hHeld
                    generalize (W3.setCell ⟨q, 0, none⟩ (.bool y1)).setCell ⟨q, 1, none⟩ (.int .i64 y2) = W5 at hQ4 hKeep ⊢
                    obtain ⟨h7, h2, h3, hq, hB⟩ := hKeep
                    have hq4 : q1 < q := hqlt
                    have f0 := h2.fz 0
                    have f1 := h2.fz 1
                    have g0 := h2.c0
                    have g1 := h2.c1
                    have p0 := hq.c0
                    have p1 := hq.c1
                    have ot7 := (h7.other (p := ⟨w2.heap.size, 0, none⟩) (by show _ ≠ w2.heap.size; omega) (.bool y1)).other (p := ⟨w2.heap.size, 1, none⟩) (by show _ ≠ w2.heap.size; omega) (.int .i64 y2)
                    have ot3 := (h3.other (p := ⟨w2.heap.size, 0, none⟩) (by show _ ≠ w2.heap.size; omega) (.bool y1)).other (p := ⟨w2.heap.size, 1, none⟩) (by show _ ≠ w2.heap.size; omega) (.int .i64 y2)
                    have otQ := (hQ4.other (p := ⟨w2.heap.size, 0, none⟩) (by show _ ≠ w2.heap.size; omega) (.bool y1)).other (p := ⟨w2.heap.size, 1, none⟩) (by show _ ≠ w2.heap.size; omega) (.int .i64 y2)
                    have n2 := h2.s (.bool y1) (.int .i64 y2)
                    have nB := Below.set2 hB (b := w2.heap.size) (by omega) (.bool y1) (.int .i64 y2)
                    have e0 := ot3.c0
                    have e1 := ot3.c1
                    have e2 := ot3.fz 0
                    have e3 := ot3.fz 1
                    have e4 := otQ.c0
                    have e5 := otQ.c1
                    have m7 := (ot7.other (p := ⟨w2.heap.size + 1, 0, none⟩) (by show _ ≠ w2.heap.size + 1; omega) (.bool y1)).other (p := ⟨w2.heap.size + 1, 1, none⟩) (by show _ ≠ w2.heap.size + 1; omega) (.int .i64 y2)
                    have m2 := (n2.other (p := ⟨w2.heap.size + 1, 0, none⟩) (by show _ ≠ w2.heap.size + 1; omega) (.bool y1)).other (p := ⟨w2.heap.size + 1, 1, none⟩) (by show _ ≠ w2.heap.size + 1; omega) (.int .i64 y2)
                    have m3 := ot3.s (.bool y1) (.int .i64 y2)
                    have mB := Below.set2 nB (b := w2.heap.size + 1) (by omega) (.bool y1) (.int .i64 y2)
                    have i0 := m2.c0
                    have i1 := m2.c1
                    have i2 := m3.c0
                    have i3 := m3.c1
                    have HR := Lib.hid (And.intro m7 (And.intro m2 (And.intro m3 mB)))
                    clear h7 h2 h3 hq hB hQ4 ot7 ot3 otQ n2 nB m7 m2 m3 mB
                    go_wp2
                    go_roundw
                    case rel => exact ⟨k + 1, (y1, y2), by omega, by simp, HR.out.1, HR.out.2.1, HR.out.2.2.1, HR.out.2.2.2⟩
                    case measure => simp [RowKit.intOf]; omega
        · obtain rfl : k = n := by omega
          clear h7 h2 h3
          go_wp2
          go_ret
          exact ⟨rfl, hB⟩

end Go.Proofs.YtaamhjjdhebjfaaGreatDoor
