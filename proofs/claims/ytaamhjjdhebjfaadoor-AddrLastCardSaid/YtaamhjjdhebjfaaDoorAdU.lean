/- Lines handed over; AddrNot: the walk. -/
import Derived.Test.YtaamhjjdhebjfaaDoorAdP
import Derived.Test.YtaamhjjdhebjfaaDoorAdS
namespace Go.Proofs.YtaamhjjdhebjfaaDoor
open Go.RowKit Go.Lib
set_option linter.unusedVariables false
set_option linter.unusedSimpArgs false

structure Li where
  N : Int
  L : Bool
  p : Option Addr
  n : Nat
  c : Nat
  H : List Bool
/-- The lines ls lie there, to be read. -/
structure Lns (w : World) (p : Option Addr) (n cap : Nat) (ls : List Li) : Prop where
  len : ls.length = n
  le : n ≤ cap
  capm : cap ≤ maxLen
  ptr : 1 ≤ n → ∃ b o, p = some ⟨b, o, none⟩
  lt : 1 ≤ n → ∀ b o, p = some ⟨b, o, none⟩ → b < w.heap.size
  cell : ∀ b o, p = some ⟨b, o, none⟩ → ∀ (i : Nat) (x : Li), ls[i]? = some x → w.cell? ⟨b, o + i * 3, none⟩ = some (.int .i64 x.N) ∧ w.cell? ⟨b, o + i * 3 + 1, none⟩ = some (.bool x.L) ∧ w.cell? ⟨b, o + i * 3 + 2, none⟩ = some (.slice x.p x.n x.c)
  bls : ∀ (i : Nat) (x : Li), ls[i]? = some x → Bls w x.p x.n x.c x.H
theorem Lns.below {w w' : World} {p : Option Addr} {n cap B : Nat} {ls : List Li} (h : Lns w p n cap ls) (hB : Below B w w') (hb : w.heap.size ≤ B) : Lns w' p n cap ls :=
  ⟨h.len, h.le, h.capm, h.ptr, fun h1 b o e => Nat.lt_of_lt_of_le (h.lt h1 b o e) hB.size, fun b o e i x hx => by
    have h1 : 1 ≤ n := by have := (List.getElem?_eq_some_iff.1 hx).1; have := h.len; omega
    have := Nat.lt_of_lt_of_le (h.lt h1 b o e) hb
    rw [hB.cell (p := ⟨b, _, none⟩) this, hB.cell (p := ⟨b, _, none⟩) this, hB.cell (p := ⟨b, _, none⟩) this]
    exact h.cell b o e i x hx, fun i x hx => (h.bls i x hx).below hB hb⟩
theorem Lns.none_ (w : World) : Lns w none 0 0 [] := ⟨rfl, Nat.le_refl _, by unfold maxLen; omega, fun h => absurd h (by omega), fun h => absurd h (by omega), fun b o e => (by cases e), fun i x hx => (by simp at hx)⟩

theorem ask_bd {r : Rg} (hr : r.Nums) (s : Bool × Int) (N : Int) (L : Bool) (H : List Bool) (h0 : 0 ≤ N) (h9 : N ≤ 999999999) (s0 : 0 ≤ s.2) (s9 : s.2 ≤ 3000000000) : 0 ≤ (askA r s N L H).2.2 ∧ (askA r s N L H).2.2 ≤ 3000000000 := by
  have hg : ∀ s : Bool × Int, 0 ≤ s.2 → s.2 ≤ 3000000000 → 0 ≤ (goA r s N L H).2.2 ∧ (goA r s N L H).2.2 ≤ 3000000000 := by
    intro s s0 s9
    unfold goA
    split
    · exact ⟨by simp, by simp⟩
    · split
      · exact ⟨by simp, by simp⟩
      · exact ⟨s0, s9⟩
  have ho : ∀ (b : Bool) (t : Int), 0 ≤ t → t ≤ 3000000000 → 0 ≤ (opn b t).2 ∧ (opn b t).2 ≤ 3000000000 := by
    intro b t t0 t9
    unfold opn
    split
    · exact ⟨t0, t9⟩
    · exact ⟨by simp, by simp⟩
  have hb : 0 ≤ (begA r.b N L).2 ∧ (begA r.b N L).2 ≤ 3000000000 := by
    have b0 := hr.b0
    have b9 := hr.b9
    have hm := mulFrom_ge N r.b.n h0
    unfold begA
    split
    · exact ho _ _ (by omega) (by omega)
    split
    · exact ho _ _ (by omega) (by omega)
    split
    · exact ⟨by simp, by simp⟩
    split
    · exact ho _ _ (by omega) (by omega)
    split
    · refine ho _ _ (by omega) ?_
      by_cases hn : 0 < r.b.n
      · have := hm.2.1 hn; omega
      · have : mulFrom N r.b.n = N := if_pos (by omega)
        omega
    · exact ⟨by simp, by simp⟩
  unfold askA
  split
  · exact ⟨s0, s9⟩
  split
  · exact hg s s0 s9
  split
  · exact hg _ (by simp) (by simp)
  split
  · exact hb
  · exact ⟨s0, s9⟩

theorem keySt : Tryd.prog.keyTypeAt 2 44 = true := by kernel_rfl
theorem cellsSt : Tryd.prog.cellsOf 44 = 2 := by kernel_rfl
set_option maxRecDepth 100000 in
theorem eqSt (b : Bool) (t : Int) (h0 : 0 ≤ t) (h9 : t ≤ 3000000000) (w : World) : (Op.equalIn 10000 44 (.agg #[.bool b, .int .i64 t]) (.agg #[.bool b, .int .i64 t])).run Tryd.prog w = .ok true w := by
  have w1 := wf_i64 (x := t) (by omega)
  have hk : Tryd.prog.keyLits 4 44 [.bool b, .int .i64 t] = some [.bool b, .int .i64 t] := by
    simp [Program.keyLits, Tryd.underlying44, Tryd.underlying3, Tryd.underlying4, cellsSt, cellsI1, cellsB1, w1]
    try (intro i hi; rcases (by omega : i = 0 ∨ i = 1) with rfl | rfl <;> simp)
  have hf : (Value.agg #[.bool b, .int .i64 t]).formed Tryd.prog 44 = true := by
    simp [Value.formed, Tryd.underlying44, cellsSt]
  obtain ⟨x, hr, hiff⟩ := run_equalIn_deep 9998 2 _ keySt w 4 4 _ _ _ _ hf hf hk hk
  rw [hr, hiff.2 rfl]

set_option maxRecDepth 100000 in
set_option maxHeartbeats 8000000 in
theorem notW (r : Rg) (p : Option Addr) (n cap : Nat) (ls : List Li) (w : World) (hls : Lns w p n cap ls) (hfit : Fit6 w) :
    Calls Tryd.prog 5 #[rgv r, .slice p n cap] w fun e w' => e = .returned (.bool true) ∧ Below w.heap.size w w' := by
  have HS := Lib.hid (fun w h => shown_c w h)
  have hlen := hls.len
  have hle := hls.le
  have hcm := hls.capm
  have hr0 : mayR r = true → r.Nums := fun h => mayR.nums h
  have M0 := fun w => may_c r w
  generalize hMd : mayR r = M at M0 hr0
  clear hMd
  have AA0 := fun (s : Bool × Int) (x : Li) (h : r.Nums) (h1 : 0 ≤ x.N) (h9 : x.N ≤ 999999999) w (hb : Bls w x.p x.n x.c x.H) => Ask_c r s x.N x.L x.p x.n x.c x.H h h1 h9 w hb
  have NN0 := fun (s : Bool × Int) (x : Li) (h : r.Nums) (h1 : 0 ≤ x.N) (h9 : x.N ≤ 999999999) w (hb : Bls w x.p x.n x.c x.H) => Ask_c ⟨r.a, r.b, !r.not⟩ s x.N x.L x.p x.n x.c x.H (h.not _) h1 h9 w hb
  have e1 : ∀ (s : Bool × Int) (x : Li), askA ⟨r.a, r.b, !r.not⟩ s x.N x.L x.H = askA r s x.N x.L x.H := fun s x => rfl
  simp only [e1] at NN0
  have BD0 := fun (s : Bool × Int) (x : Li) (h : r.Nums) (h1 : 0 ≤ x.N) (h9 : x.N ≤ 999999999) (s0 : 0 ≤ s.2) (s9 : s.2 ≤ 3000000000) => ask_bd h s x.N x.L x.H h1 h9 s0 s9
  generalize askA r = AK at AA0 NN0 BD0
  obtain ⟨⟨ak, an, am⟩, ⟨bk, bn, bm⟩, nt⟩ := r
  unfold rgv at M0 AA0 NN0 ⊢
  unfold stv lnv asv stv at AA0 NN0
  simp only at M0 AA0 NN0 ⊢
  have HM := Lib.hid M0
  have AA := Lib.hid AA0
  have NN := Lib.hid NN0
  have BD := Lib.hid BD0
  have hB0 := (Below.refl _ w).alloc (Nat.le_refl _) (.cells #[.int .i64 ak, .int .i64 an, .int .i64 am, .int .i64 bk, .int .i64 bn, .int .i64 bm, .bool nt] 29)
  have HB := Lib.hid hB0
  have H7 := Lib.hid (Seven.new w 29 (.int .i64 ak) (.int .i64 an) (.int .i64 am) (.int .i64 bk) (.int .i64 bn) (.int .i64 bm) (.bool nt))
  have HF := Lib.hid (hfit.below hB0)
  have HLS := Lib.hid hls
  have hFit : ∀ W, Below w.heap.size w W → Fit6 W := fun W h => hfit.below h
  have HFit := Lib.hid hFit
  clear M0 AA0 NN0 BD0 hB0 hfit hls e1 hFit
  by_cases c1 : 60 < n
  · have t1 : (60 : Int) < (n : Int) := by omega
    go_enter Tryd.func5, Tryd.ntmps5
    go_wp2_with fail
    refine (HS.out _ HF.out).mono ?_
    rintro e w1 ⟨rfl, hB⟩
    have HB1 := Lib.hid (HB.out.trans (hB.mono HB.out.size))
    clear hB
    go_wp2
    go_ret
    exact ⟨rfl, HB1.out⟩
  · have t1 : ¬ (60 : Int) < (n : Int) := by omega
    cases M
    · go_enter Tryd.func5, Tryd.ntmps5
      go_wp2_with fail
      refine (HM.out _).mono ?_
      rintro e w1 ⟨rfl, hB⟩
      have HB1 := Lib.hid (HB.out.trans (hB.mono HB.out.size))
      have HF1 := Lib.hid (HF.out.below hB)
      clear hB
      go_wp2_with fail
      refine (HS.out _ HF1.out).mono ?_
      rintro e w2 ⟨rfl, hB⟩
      have HB2 := Lib.hid (HB1.out.trans (hB.mono HB1.out.size))
      clear hB
      go_wp2
      go_ret
      exact ⟨rfl, HB2.out⟩
    · have hr := hr0 rfl
      clear hr0
      go_enter Tryd.func5, Tryd.ntmps5
      go_wp2_with fail
      refine (HM.out _).mono ?_
      rintro e w1 ⟨rfl, hB⟩
      have HB1 := Lib.hid (HB.out.trans (hB.mono HB.out.size))
      have HF1 := Lib.hid (HF.out.below hB)
      have H71 := Lib.hid (H7.out.beside hB)
      clear hB
      go_wp2_with fail
      refine (HS.out _ HF1.out).mono ?_
      rintro e w2 ⟨rfl, hB⟩
      have HB2 := Lib.hid (HB1.out.trans (hB.mono HB1.out.size))
      have HF2 := Lib.hid (HF1.out.below hB)
      have H72 := Lib.hid (H71.out.beside hB)
      clear hB
      have q0 := H72.out.c0
      have q1 := H72.out.c1
      have q2 := H72.out.c2
      have q3 := H72.out.c3
      have q4 := H72.out.c4
      have q5 := H72.out.c5
      have q6 := H72.out.c6
      have hlt2 : w.heap.size < w2.heap.size := H72.out.lt
      have HNN := Lib.hid (new72 w2 (.int .i64 ak) (.int .i64 an) (.int .i64 am) (.int .i64 bk) (.int .i64 bn) (.int .i64 bm) (.bool (!nt)) (.bool false) (.int .i64 0))
      have HBN := Lib.hid (Below.al2 w2 (.cells #[.int .i64 ak, .int .i64 an, .int .i64 am, .int .i64 bk, .int .i64 bn, .int .i64 bm, .bool (!nt)] 29) (.cells #[.bool false, .int .i64 0] 44))
      go_wp2_with fail
      go_loopw [7] (fun i wr => ∃ (k : Nat) (st : Bool × Int), k ≤ n ∧ i = .int .i64 k ∧ 0 ≤ st.2 ∧ st.2 ≤ 3000000000 ∧ Seven wr w.heap.size 29 (.int .i64 ak) (.int .i64 an) (.int .i64 am) (.int .i64 bk) (.int .i64 bn) (.int .i64 bm) (.bool nt) ∧ Seven wr w2.heap.size 29 (.int .i64 ak) (.int .i64 an) (.int .i64 am) (.int .i64 bk) (.int .i64 bn) (.int .i64 bm) (.bool (!nt)) ∧ Two wr (w2.heap.size + 1) 44 (.bool st.1) (.int .i64 st.2) ∧ Below w.heap.size w wr) (fun i _ => n - (RowKit.intOf i).toNat)
      case atStart =>
        refine ⟨0, (false, 0), by omega, rfl, by simp, by simp, H72.out.beside HBN.out, HNN.out.1, HNN.out.2, HB2.out.trans (HBN.out.mono HB2.out.size)⟩
      case round =>
        obtain ⟨k, ⟨x1, x2⟩, hk, rfl, s0, s9, h7, h8, h2, hB⟩ := hrel
        simp only at s0 s9 h2
        by_cases hlt : k < n
        · have t0 : (k : Int) < (n : Int) := by omega
          have hL := HLS.out.below hB (Nat.le_refl _)
          obtain ⟨b, o, rfl⟩ := hL.ptr (by omega)
          obtain ⟨x, hxk⟩ : ∃ x, ls[k]? = some x := ⟨ls[k]'(by omega), List.getElem?_eq_getElem (by omega)⟩
          obtain ⟨l0, l1, l2⟩ := hL.cell b o rfl k x hxk
          have hbl := HLS.out.lt (by omega) b o rfl
          have BLX := fun (W : World) (h : Below w.heap.size w W) => (HLS.out.below h (Nat.le_refl _)).bls k x hxk
          have AX0 := fun h1 h9 W (h : Below w.heap.size w W) => AA.out (x1, x2) x hr h1 h9 W (BLX W h)
          have NX0 := fun h1 h9 W (h : Below w.heap.size w W) => NN.out (x1, x2) x hr h1 h9 W (BLX W h)
          have BX0 := fun h1 h9 => BD.out (x1, x2) x hr h1 h9 s0 s9
          have hcx := (hL.bls k x hxk).capm
          have hlx := (hL.bls k x hxk).le
          obtain ⟨lN, lL, lp, ln, lc, lH⟩ := x
          simp only at l0 l1 l2 AX0 NX0 BX0 hcx hlx
          generalize AK (x1, x2) lN lL lH = G at AX0 NX0 BX0
          obtain ⟨g, y1, y2⟩ := G
          simp only at AX0 NX0 BX0
          have HB := Lib.hid hB
          have H7 := Lib.hid h7
          have H8 := Lib.hid h8
          have H2 := Lib.hid h2
          have hltr : w2.heap.size + 1 < wr.heap.size := h2.lt
          have HXK := Lib.hid hxk
          clear BLX hxk hL hB h7 h8 h2
          by_cases d1 : 100 < ln
          · have u1 : (100 : Int) < (ln : Int) := by omega
            go_wp2_with fail
            refine (HS.out _ (HFit.out _ HB.out)).mono ?_
            rintro e wS ⟨rfl, hB⟩
            have HBS := Lib.hid (HB.out.trans (hB.mono HB.out.size))
            clear hB
            go_wp2
            go_ret
            exact ⟨rfl, HBS.out⟩
          · have u1 : ¬ (100 : Int) < (ln : Int) := by omega
            by_cases d2 : lN < 1
            · have u2 : decide (lN < 1) = true := by simp; omega
              go_wp2_with fail
              refine (HS.out _ (HFit.out _ HB.out)).mono ?_
              rintro e wS ⟨rfl, hB⟩
              have HBS := Lib.hid (HB.out.trans (hB.mono HB.out.size))
              clear hB
              go_wp2
              go_ret
              exact ⟨rfl, HBS.out⟩
            · have u2 : decide (lN < 1) = false := by simp; omega
              have u2' : ¬ lN < 1 := d2
              by_cases d3 : 999999999 < lN
              · have u3 : decide (999999999 < lN) = true := by simp; omega
                go_wp2_with fail
                refine (HS.out _ (HFit.out _ HB.out)).mono ?_
                rintro e wS ⟨rfl, hB⟩
                have HBS := Lib.hid (HB.out.trans (hB.mono HB.out.size))
                clear hB
                go_wp2
                go_ret
                exact ⟨rfl, HBS.out⟩
              · have u3 : decide (999999999 < lN) = false := by simp; omega
                have u3' : ¬ 999999999 < lN := d3
                have BX := BX0 (by omega) (by omega)
                have AX := Lib.hid (fun W h => AX0 (by omega) (by omega) W h)
                have NX := Lib.hid (fun W h => NX0 (by omega) (by omega) W h)
                have EQ := fun W => eqSt y1 y2 BX.1 BX.2 W
                clear AX0 NX0 BX0 d1 d2 d3
                go_wp2_with fail
                refine wp_region_noPanic ?_
                refine wp_region_held_drew (S := fun w' => (w'.cell? ⟨w.heap.size, 0, none⟩ = some (.int .i64 ak) ∧ w'.cell? ⟨w.heap.size, 1, none⟩ = some (.int .i64 an) ∧ w'.cell? ⟨w.heap.size, 2, none⟩ = some (.int .i64 am) ∧ w'.cell? ⟨w.heap.size, 3, none⟩ = some (.int .i64 bk) ∧ w'.cell? ⟨w.heap.size, 4, none⟩ = some (.int .i64 bn) ∧ w'.cell? ⟨w.heap.size, 5, none⟩ = some (.int .i64 bm) ∧ w'.cell? ⟨w.heap.size, 6, none⟩ = some (.bool nt) ∧ w'.cell? ⟨(w2.heap.size + 1), 0, none⟩ = some (.bool x1) ∧ w'.cell? ⟨(w2.heap.size + 1), 1, none⟩ = some (.int .i64 x2) ∧ w'.cell? ⟨b, o + k * 3, none⟩ = some (.int .i64 lN) ∧ w'.cell? ⟨b, o + k * 3 + 1, none⟩ = some (.bool lL) ∧ w'.cell? ⟨b, o + k * 3 + 2, none⟩ = some (.slice lp ln lc)) ∧ Seven w' w.heap.size 29 (.int .i64 ak) (.int .i64 an) (.int .i64 am) (.int .i64 bk) (.int .i64 bn) (.int .i64 bm) (.bool nt) ∧ Seven w' w2.heap.size 29 (.int .i64 ak) (.int .i64 an) (.int .i64 am) (.int .i64 bk) (.int .i64 bn) (.int .i64 bm) (.bool (!nt)) ∧ Two w' (w2.heap.size + 1) 44 (.bool x1) (.int .i64 x2) ∧ Below w.heap.size w w') (by kernel_rfl) ?_ (fun hHeld => ?_)
                · (try dsimp only); exact ⟨⟨H7.out.drew.c0, H7.out.drew.c1, H7.out.drew.c2, H7.out.drew.c3, H7.out.drew.c4, H7.out.drew.c5, H7.out.drew.c6, H2.out.drew.c0, H2.out.drew.c1, l0, l1, l2⟩, H7.out.drew, H8.out.drew, H2.out.drew, HB.out.drew⟩
                refine wpAnyH_take (i := 0) (v := ?_) rfl (by kernel_rfl) (by kernel_rfl) (by kernel_rfl) (fun _ _ _ h => h) (Or.inl ⟨by kernel_rfl, ?_⟩) (by assumption) ?_
                rotate_left
                · (intro w hSw; (try dsimp only at hSw); (try obtain ⟨⟨c0, c1, c2, c3, c4, c5, c6, c7, c8, c9, c10, c11⟩, h7, h8, h2, hB⟩ := hSw); go_simp); (try with_reducible rfl)
                try simp only [Act.put, List.getElem_toArray, List.getElem_cons_succ, List.getElem_cons_zero, List.setIfInBounds_toArray, List.set_cons_zero, List.set_cons_succ]
                refine wpAnyH_take (i := 1) (v := ?_) rfl (by kernel_rfl) (by kernel_rfl) (by kernel_rfl) (fun _ _ _ h => h) (Or.inl ⟨by kernel_rfl, ?_⟩) (by assumption) ?_
                rotate_left
                · (intro w hSw; (try dsimp only at hSw); (try obtain ⟨⟨c0, c1, c2, c3, c4, c5, c6, c7, c8, c9, c10, c11⟩, h7, h8, h2, hB⟩ := hSw); go_simp); (try with_reducible rfl)
                try simp only [Act.put, List.getElem_toArray, List.getElem_cons_succ, List.getElem_cons_zero, List.setIfInBounds_toArray, List.set_cons_zero, List.set_cons_succ]
                refine wpAnyH_take (i := 2) (v := ?_) rfl (by kernel_rfl) (by kernel_rfl) (by kernel_rfl) (fun _ _ _ h => h) (Or.inl ⟨by kernel_rfl, ?_⟩) (by assumption) ?_
                rotate_left
                · (intro w hSw; (try dsimp only at hSw); (try obtain ⟨⟨c0, c1, c2, c3, c4, c5, c6, c7, c8, c9, c10, c11⟩, h7, h8, h2, hB⟩ := hSw); go_simp); (try with_reducible rfl)
                try simp only [Act.put, List.getElem_toArray, List.getElem_cons_succ, List.getElem_cons_zero, List.setIfInBounds_toArray, List.set_cons_zero, List.set_cons_succ]
                refine wpAnyH_take (i := 3) (v := ?_) rfl (by kernel_rfl) (by kernel_rfl) (by kernel_rfl) (fun _ _ _ h => h) (Or.inl ⟨by kernel_rfl, ?_⟩) (by assumption) ?_
                rotate_left
                · (intro w hSw; (try dsimp only at hSw); (try obtain ⟨⟨c0, c1, c2, c3, c4, c5, c6, c7, c8, c9, c10, c11⟩, h7, h8, h2, hB⟩ := hSw); go_simp); (try with_reducible rfl)
                try simp only [Act.put, List.getElem_toArray, List.getElem_cons_succ, List.getElem_cons_zero, List.setIfInBounds_toArray, List.set_cons_zero, List.set_cons_succ]
                refine wpAnyH_take (i := 4) (v := ?_) rfl (by kernel_rfl) (by kernel_rfl) (by kernel_rfl) (fun _ _ _ h => h) (Or.inl ⟨by kernel_rfl, ?_⟩) (by assumption) ?_
                rotate_left
                · (intro w hSw; (try dsimp only at hSw); (try obtain ⟨⟨c0, c1, c2, c3, c4, c5, c6, c7, c8, c9, c10, c11⟩, h7, h8, h2, hB⟩ := hSw); go_simp); (try with_reducible rfl)
                try simp only [Act.put, List.getElem_toArray, List.getElem_cons_succ, List.getElem_cons_zero, List.setIfInBounds_toArray, List.set_cons_zero, List.set_cons_succ]
                refine wpAnyH_take (i := 5) (v := ?_) rfl (by kernel_rfl) (by kernel_rfl) (by kernel_rfl) (fun _ _ _ h => h) (Or.inl ⟨by kernel_rfl, ?_⟩) (by assumption) ?_
                rotate_left
                · (intro w hSw; (try dsimp only at hSw); (try obtain ⟨⟨c0, c1, c2, c3, c4, c5, c6, c7, c8, c9, c10, c11⟩, h7, h8, h2, hB⟩ := hSw); go_simp); (try with_reducible rfl)
                try simp only [Act.put, List.getElem_toArray, List.getElem_cons_succ, List.getElem_cons_zero, List.setIfInBounds_toArray, List.set_cons_zero, List.set_cons_succ]
                refine wpAnyH_ready (rs := [6, 10]) (by kernel_rfl) (by simp) ?_
                refine AllReadyH.cons rfl (fun K hK => ?_) (AllReadyH.cons rfl (fun K hK => ?_) AllReadyH.nil)
                focus
                  go_simp
                  have hHn := hHeld
                  obtain ⟨⟨c0, c1, c2, c3, c4, c5, c6, c7, c8, c9, c10, c11⟩, h7, h8, h2, hB⟩ := hHn
                  refine (AX.out _ hB).mono ?_
                  rintro e wNa0 ⟨rfl, hBN⟩
                  clear c0 c1 c2 c3 c4 c5 c6 c7 c8 c9 c10 c11 h7 h8 h2 hB
                  refine hK.out _ _ ?_ (fun hHeld => ?_)
                  · (try dsimp only); obtain ⟨⟨c0, c1, c2, c3, c4, c5, c6, c7, c8, c9, c10, c11⟩, h7, h8, h2, hB⟩ := hHeld; exact ⟨⟨cell_keep hBN c0, cell_keep hBN c1, cell_keep hBN c2, cell_keep hBN c3, cell_keep hBN c4, cell_keep hBN c5, cell_keep hBN c6, cell_keep hBN c7, cell_keep hBN c8, cell_keep hBN c9, cell_keep hBN c10, cell_keep hBN c11⟩, h7.beside hBN, h8.beside hBN, h2.beside hBN, hB.trans (hBN.mono hB.size)⟩
                  clear hK K hBN
                  try simp only [Act.put, List.getElem_toArray, List.getElem_cons_succ, List.getElem_cons_zero, List.setIfInBounds_toArray, List.set_cons_zero, List.set_cons_succ]
                  refine wpAnyH_take (i := 7) (v := ?_) rfl (by kernel_rfl) (by kernel_rfl) (by kernel_rfl) (fun _ _ _ h => h) (Or.inl ⟨by kernel_rfl, ?_⟩) (by assumption) ?_
                  rotate_left
                  · (intro w hSw; (try dsimp only at hSw); (try obtain ⟨⟨c0, c1, c2, c3, c4, c5, c6, c7, c8, c9, c10, c11⟩, h7, h8, h2, hB⟩ := hSw); go_simp); (try with_reducible rfl)
                  try simp only [Act.put, List.getElem_toArray, List.getElem_cons_succ, List.getElem_cons_zero, List.setIfInBounds_toArray, List.set_cons_zero, List.set_cons_succ]
                  refine wpAnyH_take (i := 8) (v := ?_) rfl (by kernel_rfl) (by kernel_rfl) (by kernel_rfl) (fun _ _ _ h => h) (Or.inl ⟨by kernel_rfl, ?_⟩) (by assumption) ?_
                  rotate_left
                  · (intro w hSw; (try dsimp only at hSw); (try obtain ⟨⟨c0, c1, c2, c3, c4, c5, c6, c7, c8, c9, c10, c11⟩, h7, h8, h2, hB⟩ := hSw); go_simp); (try with_reducible rfl)
                  try simp only [Act.put, List.getElem_toArray, List.getElem_cons_succ, List.getElem_cons_zero, List.setIfInBounds_toArray, List.set_cons_zero, List.set_cons_succ]
                  refine wpAnyH_take (i := 9) (v := ?_) rfl (by kernel_rfl) (by kernel_rfl) (by kernel_rfl) (fun _ _ _ h => h) (Or.inl ⟨by kernel_rfl, ?_⟩) (by assumption) ?_
                  rotate_left
                  · (intro w hSw; (try dsimp only at hSw); (try obtain ⟨⟨c0, c1, c2, c3, c4, c5, c6, c7, c8, c9, c10, c11⟩, h7, h8, h2, hB⟩ := hSw); go_simp); (try with_reducible rfl)
                  try simp only [Act.put, List.getElem_toArray, List.getElem_cons_succ, List.getElem_cons_zero, List.setIfInBounds_toArray, List.set_cons_zero, List.set_cons_succ]
                  refine wpAnyH_ready (rs := [10]) (by kernel_rfl) (by simp) ?_
                  refine AllReadyH.cons rfl (fun K hK => ?_) ?_
                  rotate_left
                  · exact AllReadyH.nil
                  go_simp
                  have hQ : Two (wNa0.alloc (.cells #[.bool false, .int .i64 0] 44)) wNa0.heap.size 44 (.bool false) (.int .i64 0) := Two.new wNa0 44 (.bool false) (.int .i64 0)
                  have hqlt : w2.heap.size + 1 < wNa0.heap.size := by
                    obtain ⟨⟨c0, c1, c2, c3, c4, c5, c6, c7, c8, c9, c10, c11⟩, h7, h8, h2, hB⟩ := hHeld
                    exact h2.lt
                  have hBN := (Below.refl _ wNa0).alloc (Nat.le_refl _) (.cells #[.bool false, .int .i64 0] 44)
                  refine hK.out _ _ ?_ (fun hHeld => ?_)
                  · (try dsimp only); obtain ⟨⟨c0, c1, c2, c3, c4, c5, c6, c7, c8, c9, c10, c11⟩, h7, h8, h2, hB⟩ := hHeld; exact ⟨⟨cell_keep hBN c0, cell_keep hBN c1, cell_keep hBN c2, cell_keep hBN c3, cell_keep hBN c4, cell_keep hBN c5, cell_keep hBN c6, cell_keep hBN c7, cell_keep hBN c8, cell_keep hBN c9, cell_keep hBN c10, cell_keep hBN c11⟩, h7.beside hBN, h8.beside hBN, h2.beside hBN, hB.trans (hBN.mono hB.size)⟩
                  clear hK K hBN
                  try simp only [Act.put, List.getElem_toArray, List.getElem_cons_succ, List.getElem_cons_zero, List.setIfInBounds_toArray, List.set_cons_zero, List.set_cons_succ]
                  generalize (wNa0.alloc (.cells #[.bool false, .int .i64 0] 44)) = W3 at hHeld hQ ⊢
                  generalize wNa0.heap.size = q at hQ hqlt ⊢
                rotate_left 1
                focus
                  go_simp
                  have hQ : Two (wr.drew.alloc (.cells #[.bool false, .int .i64 0] 44)) wr.heap.size 44 (.bool false) (.int .i64 0) := Two.new wr.drew 44 (.bool false) (.int .i64 0)
                  have hqlt : w2.heap.size + 1 < wr.heap.size := by
                    obtain ⟨⟨c0, c1, c2, c3, c4, c5, c6, c7, c8, c9, c10, c11⟩, h7, h8, h2, hB⟩ := hHeld
                    exact h2.lt
                  have hBN := (Below.refl _ wr.drew).alloc (Nat.le_refl _) (.cells #[.bool false, .int .i64 0] 44)
                  refine hK.out _ _ ?_ (fun hHeld => ?_)
                  · (try dsimp only); obtain ⟨⟨c0, c1, c2, c3, c4, c5, c6, c7, c8, c9, c10, c11⟩, h7, h8, h2, hB⟩ := hHeld; exact ⟨⟨cell_keep hBN c0, cell_keep hBN c1, cell_keep hBN c2, cell_keep hBN c3, cell_keep hBN c4, cell_keep hBN c5, cell_keep hBN c6, cell_keep hBN c7, cell_keep hBN c8, cell_keep hBN c9, cell_keep hBN c10, cell_keep hBN c11⟩, h7.beside hBN, h8.beside hBN, h2.beside hBN, hB.trans (hBN.mono hB.size)⟩
                  clear hK K hBN
                  try simp only [Act.put, List.getElem_toArray, List.getElem_cons_succ, List.getElem_cons_zero, List.setIfInBounds_toArray, List.set_cons_zero, List.set_cons_succ]
                  refine wpAnyH_ready (rs := [6]) (by kernel_rfl) (by simp) ?_
                  refine AllReadyH.cons rfl (fun K hK => ?_) ?_
                  rotate_left
                  · exact AllReadyH.nil
                  go_simp
                  have hHn := hHeld
                  obtain ⟨⟨c0, c1, c2, c3, c4, c5, c6, c7, c8, c9, c10, c11⟩, h7, h8, h2, hB⟩ := hHn
                  refine (AX.out _ hB).mono ?_
                  rintro e wNa0 ⟨rfl, hBN⟩
                  clear c0 c1 c2 c3 c4 c5 c6 c7 c8 c9 c10 c11 h7 h8 h2 hB
                  have hQ := hQ.beside hBN
                  refine hK.out _ _ ?_ (fun hHeld => ?_)
                  · (try dsimp only); obtain ⟨⟨c0, c1, c2, c3, c4, c5, c6, c7, c8, c9, c10, c11⟩, h7, h8, h2, hB⟩ := hHeld; exact ⟨⟨cell_keep hBN c0, cell_keep hBN c1, cell_keep hBN c2, cell_keep hBN c3, cell_keep hBN c4, cell_keep hBN c5, cell_keep hBN c6, cell_keep hBN c7, cell_keep hBN c8, cell_keep hBN c9, cell_keep hBN c10, cell_keep hBN c11⟩, h7.beside hBN, h8.beside hBN, h2.beside hBN, hB.trans (hBN.mono hB.size)⟩
                  clear hK K hBN
                  try simp only [Act.put, List.getElem_toArray, List.getElem_cons_succ, List.getElem_cons_zero, List.setIfInBounds_toArray, List.set_cons_zero, List.set_cons_succ]
                  refine wpAnyH_take (i := 7) (v := ?_) rfl (by kernel_rfl) (by kernel_rfl) (by kernel_rfl) (fun _ _ _ h => h) (Or.inl ⟨by kernel_rfl, ?_⟩) (by assumption) ?_
                  rotate_left
                  · (intro w hSw; (try dsimp only at hSw); (try obtain ⟨⟨c0, c1, c2, c3, c4, c5, c6, c7, c8, c9, c10, c11⟩, h7, h8, h2, hB⟩ := hSw); go_simp); (try with_reducible rfl)
                  try simp only [Act.put, List.getElem_toArray, List.getElem_cons_succ, List.getElem_cons_zero, List.setIfInBounds_toArray, List.set_cons_zero, List.set_cons_succ]
                  refine wpAnyH_take (i := 8) (v := ?_) rfl (by kernel_rfl) (by kernel_rfl) (by kernel_rfl) (fun _ _ _ h => h) (Or.inl ⟨by kernel_rfl, ?_⟩) (by assumption) ?_
                  rotate_left
                  · (intro w hSw; (try dsimp only at hSw); (try obtain ⟨⟨c0, c1, c2, c3, c4, c5, c6, c7, c8, c9, c10, c11⟩, h7, h8, h2, hB⟩ := hSw); go_simp); (try with_reducible rfl)
                  try simp only [Act.put, List.getElem_toArray, List.getElem_cons_succ, List.getElem_cons_zero, List.setIfInBounds_toArray, List.set_cons_zero, List.set_cons_succ]
                  refine wpAnyH_take (i := 9) (v := ?_) rfl (by kernel_rfl) (by kernel_rfl) (by kernel_rfl) (fun _ _ _ h => h) (Or.inl ⟨by kernel_rfl, ?_⟩) (by assumption) ?_
                  rotate_left
                  · (intro w hSw; (try dsimp only at hSw); (try obtain ⟨⟨c0, c1, c2, c3, c4, c5, c6, c7, c8, c9, c10, c11⟩, h7, h8, h2, hB⟩ := hSw); go_simp); (try with_reducible rfl)
                  try simp only [Act.put, List.getElem_toArray, List.getElem_cons_succ, List.getElem_cons_zero, List.setIfInBounds_toArray, List.set_cons_zero, List.set_cons_succ]
                  generalize wNa0 = W3 at hHeld hQ ⊢
                  generalize wr.heap.size = q at hQ hqlt ⊢
                all_goals
                  refine wpAnyH_take (i := 11) (v := ?_) rfl (by kernel_rfl) (by kernel_rfl) (by kernel_rfl) (fun _ _ _ h => h) (Or.inl ⟨by kernel_rfl, ?_⟩) (by assumption) ?_
                  rotate_left
                  · (intro w hSw; (try dsimp only at hSw); (try obtain ⟨⟨c0, c1, c2, c3, c4, c5, c6, c7, c8, c9, c10, c11⟩, h7, h8, h2, hB⟩ := hSw); go_simp); (try with_reducible rfl)
                  try simp only [Act.put, List.getElem_toArray, List.getElem_cons_succ, List.getElem_cons_zero, List.setIfInBounds_toArray, List.set_cons_zero, List.set_cons_succ]
                  refine wpAnyH_ready (rs := [12]) (by kernel_rfl) (by simp) ?_
                  refine AllReadyH.cons rfl (fun K hK => ?_) ?_
                  rotate_left
                  · exact AllReadyH.nil
                  have hHn := hHeld
                  obtain ⟨⟨c0, c1, c2, c3, c4, c5, c6, c7, c8, c9, c10, c11⟩, h7, h8, h2, hB⟩ := hHn
                  have hQ4 := hQ.s (.bool y1) (.int .i64 y2)
                  have f0 := hQ.fz 0
                  have f1 := hQ.fz 1
                  have g0 := hQ.c0
                  have g1 := hQ.c1
                  have hKeep := And.intro ((h7.other (p := ⟨q, 0, none⟩) (by show _ ≠ q; omega) (.bool y1)).other (p := ⟨q, 1, none⟩) (by show _ ≠ q; omega) (.int .i64 y2)) (And.intro ((h8.other (p := ⟨q, 0, none⟩) (by show _ ≠ q; omega) (.bool y1)).other (p := ⟨q, 1, none⟩) (by show _ ≠ q; omega) (.int .i64 y2)) (And.intro ((h2.other (p := ⟨q, 0, none⟩) (by show _ ≠ q; omega) (.bool y1)).other (p := ⟨q, 1, none⟩) (by show _ ≠ q; omega) (.int .i64 y2)) (Below.set2 hB (b := q) (by omega) (.bool y1) (.int .i64 y2))))
                  go_simp
                  refine hK.out _ _ ?_ (fun hHeld => ?_)
                  · (try dsimp only); exact ⟨⟨cell_set2 c0 (by omega), cell_set2 c1 (by omega), cell_set2 c2 (by omega), cell_set2 c3 (by omega), cell_set2 c4 (by omega), cell_set2 c5 (by omega), cell_set2 c6 (by omega), cell_set2 c7 (by omega), cell_set2 c8 (by omega), cell_set2 c9 (by omega), cell_set2 c10 (by omega), cell_set2 c11 (by omega)⟩, hKeep.1, hKeep.2.1, hKeep.2.2.1, hKeep.2.2.2⟩
                  clear hK K f0 f1 g0 g1 hB hQ c0 c1 c2 c3 c4 c5 c6 c7 c8 c9 c10 c11 h7 h8 h2
                  try simp only [Act.put, List.getElem_toArray, List.getElem_cons_succ, List.getElem_cons_zero, List.setIfInBounds_toArray, List.set_cons_zero, List.set_cons_succ]
                  refine wpAnyH_done (by kernel_rfl) ?_ _
                  refine NoPanic.normal ?_
                  clear hHeld
                  generalize (W3.setCell ⟨q, 0, none⟩ (.bool y1)).setCell ⟨q, 1, none⟩ (.int .i64 y2) = W4 at hQ4 hKeep ⊢
                  obtain ⟨h7, h8, h2, hB⟩ := hKeep
                  have hq1 := hqlt
                  obtain ⟨q1, hq1d⟩ : ∃ q1, q1 = q := ⟨_, rfl⟩
                  rw [← hq1d] at hQ4 hq1
                  simp only [← hq1d]
                  clear hq1d hqlt
                  have l0' := ((HLS.out.below hB (Nat.le_refl _)).cell b o rfl k _ HXK.out).1
                  have l1' := ((HLS.out.below hB (Nat.le_refl _)).cell b o rfl k _ HXK.out).2.1
                  have l2' := ((HLS.out.below hB (Nat.le_refl _)).cell b o rfl k _ HXK.out).2.2
                  simp only at l0' l1' l2'
                  go_wp2_with fail
                  refine wp_region_noPanic ?_
                  refine wp_region_held_drew (S := fun w' => (w'.cell? ⟨w2.heap.size, 0, none⟩ = some (.int .i64 ak) ∧ w'.cell? ⟨w2.heap.size, 1, none⟩ = some (.int .i64 an) ∧ w'.cell? ⟨w2.heap.size, 2, none⟩ = some (.int .i64 am) ∧ w'.cell? ⟨w2.heap.size, 3, none⟩ = some (.int .i64 bk) ∧ w'.cell? ⟨w2.heap.size, 4, none⟩ = some (.int .i64 bn) ∧ w'.cell? ⟨w2.heap.size, 5, none⟩ = some (.int .i64 bm) ∧ w'.cell? ⟨w2.heap.size, 6, none⟩ = some (.bool (!nt)) ∧ w'.cell? ⟨(w2.heap.size + 1), 0, none⟩ = some (.bool x1) ∧ w'.cell? ⟨(w2.heap.size + 1), 1, none⟩ = some (.int .i64 x2) ∧ w'.cell? ⟨b, o + k * 3, none⟩ = some (.int .i64 lN) ∧ w'.cell? ⟨b, o + k * 3 + 1, none⟩ = some (.bool lL) ∧ w'.cell? ⟨b, o + k * 3 + 2, none⟩ = some (.slice lp ln lc)) ∧ Seven w' w.heap.size 29 (.int .i64 ak) (.int .i64 an) (.int .i64 am) (.int .i64 bk) (.int .i64 bn) (.int .i64 bm) (.bool nt) ∧ Seven w' w2.heap.size 29 (.int .i64 ak) (.int .i64 an) (.int .i64 am) (.int .i64 bk) (.int .i64 bn) (.int .i64 bm) (.bool (!nt)) ∧ Two w' (w2.heap.size + 1) 44 (.bool x1) (.int .i64 x2) ∧ Two w' q1 44 (.bool y1) (.int .i64 y2) ∧ Below w.heap.size w w') (by kernel_rfl) ?_ (fun hHeld => ?_)
                  · (try dsimp only); exact ⟨⟨h8.drew.c0, h8.drew.c1, h8.drew.c2, h8.drew.c3, h8.drew.c4, h8.drew.c5, h8.drew.c6, h2.drew.c0, h2.drew.c1, l0', l1', l2'⟩, h7.drew, h8.drew, h2.drew, hQ4.drew, hB.drew⟩
                  refine wpAnyH_take (i := 0) (v := ?_) rfl (by kernel_rfl) (by kernel_rfl) (by kernel_rfl) (fun _ _ _ h => h) (Or.inl ⟨by kernel_rfl, ?_⟩) (by assumption) ?_
                  rotate_left
                  · (intro w hSw; (try dsimp only at hSw); (try obtain ⟨⟨c0, c1, c2, c3, c4, c5, c6, c7, c8, c9, c10, c11⟩, h7, h8, h2, hq, hB⟩ := hSw); go_simp); (try with_reducible rfl)
                  try simp only [Act.put, List.getElem_toArray, List.getElem_cons_succ, List.getElem_cons_zero, List.setIfInBounds_toArray, List.set_cons_zero, List.set_cons_succ]
                  refine wpAnyH_take (i := 1) (v := ?_) rfl (by kernel_rfl) (by kernel_rfl) (by kernel_rfl) (fun _ _ _ h => h) (Or.inl ⟨by kernel_rfl, ?_⟩) (by assumption) ?_
                  rotate_left
                  · (intro w hSw; (try dsimp only at hSw); (try obtain ⟨⟨c0, c1, c2, c3, c4, c5, c6, c7, c8, c9, c10, c11⟩, h7, h8, h2, hq, hB⟩ := hSw); go_simp); (try with_reducible rfl)
                  try simp only [Act.put, List.getElem_toArray, List.getElem_cons_succ, List.getElem_cons_zero, List.setIfInBounds_toArray, List.set_cons_zero, List.set_cons_succ]
                  refine wpAnyH_take (i := 2) (v := ?_) rfl (by kernel_rfl) (by kernel_rfl) (by kernel_rfl) (fun _ _ _ h => h) (Or.inl ⟨by kernel_rfl, ?_⟩) (by assumption) ?_
                  rotate_left
                  · (intro w hSw; (try dsimp only at hSw); (try obtain ⟨⟨c0, c1, c2, c3, c4, c5, c6, c7, c8, c9, c10, c11⟩, h7, h8, h2, hq, hB⟩ := hSw); go_simp); (try with_reducible rfl)
                  try simp only [Act.put, List.getElem_toArray, List.getElem_cons_succ, List.getElem_cons_zero, List.setIfInBounds_toArray, List.set_cons_zero, List.set_cons_succ]
                  refine wpAnyH_take (i := 3) (v := ?_) rfl (by kernel_rfl) (by kernel_rfl) (by kernel_rfl) (fun _ _ _ h => h) (Or.inl ⟨by kernel_rfl, ?_⟩) (by assumption) ?_
                  rotate_left
                  · (intro w hSw; (try dsimp only at hSw); (try obtain ⟨⟨c0, c1, c2, c3, c4, c5, c6, c7, c8, c9, c10, c11⟩, h7, h8, h2, hq, hB⟩ := hSw); go_simp); (try with_reducible rfl)
                  try simp only [Act.put, List.getElem_toArray, List.getElem_cons_succ, List.getElem_cons_zero, List.setIfInBounds_toArray, List.set_cons_zero, List.set_cons_succ]
                  refine wpAnyH_take (i := 4) (v := ?_) rfl (by kernel_rfl) (by kernel_rfl) (by kernel_rfl) (fun _ _ _ h => h) (Or.inl ⟨by kernel_rfl, ?_⟩) (by assumption) ?_
                  rotate_left
                  · (intro w hSw; (try dsimp only at hSw); (try obtain ⟨⟨c0, c1, c2, c3, c4, c5, c6, c7, c8, c9, c10, c11⟩, h7, h8, h2, hq, hB⟩ := hSw); go_simp); (try with_reducible rfl)
                  try simp only [Act.put, List.getElem_toArray, List.getElem_cons_succ, List.getElem_cons_zero, List.setIfInBounds_toArray, List.set_cons_zero, List.set_cons_succ]
                  refine wpAnyH_take (i := 5) (v := ?_) rfl (by kernel_rfl) (by kernel_rfl) (by kernel_rfl) (fun _ _ _ h => h) (Or.inl ⟨by kernel_rfl, ?_⟩) (by assumption) ?_
                  rotate_left
                  · (intro w hSw; (try dsimp only at hSw); (try obtain ⟨⟨c0, c1, c2, c3, c4, c5, c6, c7, c8, c9, c10, c11⟩, h7, h8, h2, hq, hB⟩ := hSw); go_simp); (try with_reducible rfl)
                  try simp only [Act.put, List.getElem_toArray, List.getElem_cons_succ, List.getElem_cons_zero, List.setIfInBounds_toArray, List.set_cons_zero, List.set_cons_succ]
                  refine wpAnyH_ready (rs := [6, 10]) (by kernel_rfl) (by simp) ?_
                  refine AllReadyH.cons rfl (fun K hK => ?_) (AllReadyH.cons rfl (fun K hK => ?_) AllReadyH.nil)
                  focus
                    go_simp
                    have hHn := hHeld
                    obtain ⟨⟨c0, c1, c2, c3, c4, c5, c6, c7, c8, c9, c10, c11⟩, h7, h8, h2, hq, hB⟩ := hHn
                    refine (NX.out _ hB).mono ?_
                    rintro e wNb0 ⟨rfl, hBN⟩
                    clear c0 c1 c2 c3 c4 c5 c6 c7 c8 c9 c10 c11 h7 h8 h2 hq hB
                    refine hK.out _ _ ?_ (fun hHeld => ?_)
                    · (try dsimp only); obtain ⟨⟨c0, c1, c2, c3, c4, c5, c6, c7, c8, c9, c10, c11⟩, h7, h8, h2, hq, hB⟩ := hHeld; exact ⟨⟨cell_keep hBN c0, cell_keep hBN c1, cell_keep hBN c2, cell_keep hBN c3, cell_keep hBN c4, cell_keep hBN c5, cell_keep hBN c6, cell_keep hBN c7, cell_keep hBN c8, cell_keep hBN c9, cell_keep hBN c10, cell_keep hBN c11⟩, h7.beside hBN, h8.beside hBN, h2.beside hBN, hq.beside hBN, hB.trans (hBN.mono hB.size)⟩
                    clear hK K hBN
                    try simp only [Act.put, List.getElem_toArray, List.getElem_cons_succ, List.getElem_cons_zero, List.setIfInBounds_toArray, List.set_cons_zero, List.set_cons_succ]
                    refine wpAnyH_take (i := 7) (v := ?_) rfl (by kernel_rfl) (by kernel_rfl) (by kernel_rfl) (fun _ _ _ h => h) (Or.inl ⟨by kernel_rfl, ?_⟩) (by assumption) ?_
                    rotate_left
                    · (intro w hSw; (try dsimp only at hSw); (try obtain ⟨⟨c0, c1, c2, c3, c4, c5, c6, c7, c8, c9, c10, c11⟩, h7, h8, h2, hq, hB⟩ := hSw); go_simp); (try with_reducible rfl)
                    try simp only [Act.put, List.getElem_toArray, List.getElem_cons_succ, List.getElem_cons_zero, List.setIfInBounds_toArray, List.set_cons_zero, List.set_cons_succ]
                    refine wpAnyH_take (i := 8) (v := ?_) rfl (by kernel_rfl) (by kernel_rfl) (by kernel_rfl) (fun _ _ _ h => h) (Or.inl ⟨by kernel_rfl, ?_⟩) (by assumption) ?_
                    rotate_left
                    · (intro w hSw; (try dsimp only at hSw); (try obtain ⟨⟨c0, c1, c2, c3, c4, c5, c6, c7, c8, c9, c10, c11⟩, h7, h8, h2, hq, hB⟩ := hSw); go_simp); (try with_reducible rfl)
                    try simp only [Act.put, List.getElem_toArray, List.getElem_cons_succ, List.getElem_cons_zero, List.setIfInBounds_toArray, List.set_cons_zero, List.set_cons_succ]
                    refine wpAnyH_take (i := 9) (v := ?_) rfl (by kernel_rfl) (by kernel_rfl) (by kernel_rfl) (fun _ _ _ h => h) (Or.inl ⟨by kernel_rfl, ?_⟩) (by assumption) ?_
                    rotate_left
                    · (intro w hSw; (try dsimp only at hSw); (try obtain ⟨⟨c0, c1, c2, c3, c4, c5, c6, c7, c8, c9, c10, c11⟩, h7, h8, h2, hq, hB⟩ := hSw); go_simp); (try with_reducible rfl)
                    try simp only [Act.put, List.getElem_toArray, List.getElem_cons_succ, List.getElem_cons_zero, List.setIfInBounds_toArray, List.set_cons_zero, List.set_cons_succ]
                    refine wpAnyH_ready (rs := [10]) (by kernel_rfl) (by simp) ?_
                    refine AllReadyH.cons rfl (fun K hK => ?_) ?_
                    rotate_left
                    · exact AllReadyH.nil
                    go_simp
                    have hQ : Two (wNb0.alloc (.cells #[.bool false, .int .i64 0] 44)) wNb0.heap.size 44 (.bool false) (.int .i64 0) := Two.new wNb0 44 (.bool false) (.int .i64 0)
                    have hqlt : q1 < wNb0.heap.size := by
                      obtain ⟨⟨c0, c1, c2, c3, c4, c5, c6, c7, c8, c9, c10, c11⟩, h7, h8, h2, hq, hB⟩ := hHeld
                      exact hq.lt
                    have hBN := (Below.refl _ wNb0).alloc (Nat.le_refl _) (.cells #[.bool false, .int .i64 0] 44)
                    refine hK.out _ _ ?_ (fun hHeld => ?_)
                    · (try dsimp only); obtain ⟨⟨c0, c1, c2, c3, c4, c5, c6, c7, c8, c9, c10, c11⟩, h7, h8, h2, hq, hB⟩ := hHeld; exact ⟨⟨cell_keep hBN c0, cell_keep hBN c1, cell_keep hBN c2, cell_keep hBN c3, cell_keep hBN c4, cell_keep hBN c5, cell_keep hBN c6, cell_keep hBN c7, cell_keep hBN c8, cell_keep hBN c9, cell_keep hBN c10, cell_keep hBN c11⟩, h7.beside hBN, h8.beside hBN, h2.beside hBN, hq.beside hBN, hB.trans (hBN.mono hB.size)⟩
                    clear hK K hBN
                    try simp only [Act.put, List.getElem_toArray, List.getElem_cons_succ, List.getElem_cons_zero, List.setIfInBounds_toArray, List.set_cons_zero, List.set_cons_succ]
                    generalize (wNb0.alloc (.cells #[.bool false, .int .i64 0] 44)) = W3 at hHeld hQ ⊢
                    generalize wNb0.heap.size = q at hQ hqlt ⊢
                  rotate_left 1
                  focus
                    go_simp
                    have hQ : Two (W4.drew.alloc (.cells #[.bool false, .int .i64 0] 44)) W4.heap.size 44 (.bool false) (.int .i64 0) := Two.new W4.drew 44 (.bool false) (.int .i64 0)
                    have hqlt : q1 < W4.heap.size := by
                      obtain ⟨⟨c0, c1, c2, c3, c4, c5, c6, c7, c8, c9, c10, c11⟩, h7, h8, h2, hq, hB⟩ := hHeld
                      exact hq.lt
                    have hBN := (Below.refl _ W4.drew).alloc (Nat.le_refl _) (.cells #[.bool false, .int .i64 0] 44)
                    refine hK.out _ _ ?_ (fun hHeld => ?_)
                    · (try dsimp only); obtain ⟨⟨c0, c1, c2, c3, c4, c5, c6, c7, c8, c9, c10, c11⟩, h7, h8, h2, hq, hB⟩ := hHeld; exact ⟨⟨cell_keep hBN c0, cell_keep hBN c1, cell_keep hBN c2, cell_keep hBN c3, cell_keep hBN c4, cell_keep hBN c5, cell_keep hBN c6, cell_keep hBN c7, cell_keep hBN c8, cell_keep hBN c9, cell_keep hBN c10, cell_keep hBN c11⟩, h7.beside hBN, h8.beside hBN, h2.beside hBN, hq.beside hBN, hB.trans (hBN.mono hB.size)⟩
                    clear hK K hBN
                    try simp only [Act.put, List.getElem_toArray, List.getElem_cons_succ, List.getElem_cons_zero, List.setIfInBounds_toArray, List.set_cons_zero, List.set_cons_succ]
                    refine wpAnyH_ready (rs := [6]) (by kernel_rfl) (by simp) ?_
                    refine AllReadyH.cons rfl (fun K hK => ?_) ?_
                    rotate_left
                    · exact AllReadyH.nil
                    go_simp
                    have hHn := hHeld
                    obtain ⟨⟨c0, c1, c2, c3, c4, c5, c6, c7, c8, c9, c10, c11⟩, h7, h8, h2, hq, hB⟩ := hHn
                    refine (NX.out _ hB).mono ?_
                    rintro e wNb0 ⟨rfl, hBN⟩
                    clear c0 c1 c2 c3 c4 c5 c6 c7 c8 c9 c10 c11 h7 h8 h2 hq hB
                    have hQ := hQ.beside hBN
                    refine hK.out _ _ ?_ (fun hHeld => ?_)
                    · (try dsimp only); obtain ⟨⟨c0, c1, c2, c3, c4, c5, c6, c7, c8, c9, c10, c11⟩, h7, h8, h2, hq, hB⟩ := hHeld; exact ⟨⟨cell_keep hBN c0, cell_keep hBN c1, cell_keep hBN c2, cell_keep hBN c3, cell_keep hBN c4, cell_keep hBN c5, cell_keep hBN c6, cell_keep hBN c7, cell_keep hBN c8, cell_keep hBN c9, cell_keep hBN c10, cell_keep hBN c11⟩, h7.beside hBN, h8.beside hBN, h2.beside hBN, hq.beside hBN, hB.trans (hBN.mono hB.size)⟩
                    clear hK K hBN
                    try simp only [Act.put, List.getElem_toArray, List.getElem_cons_succ, List.getElem_cons_zero, List.setIfInBounds_toArray, List.set_cons_zero, List.set_cons_succ]
                    refine wpAnyH_take (i := 7) (v := ?_) rfl (by kernel_rfl) (by kernel_rfl) (by kernel_rfl) (fun _ _ _ h => h) (Or.inl ⟨by kernel_rfl, ?_⟩) (by assumption) ?_
                    rotate_left
                    · (intro w hSw; (try dsimp only at hSw); (try obtain ⟨⟨c0, c1, c2, c3, c4, c5, c6, c7, c8, c9, c10, c11⟩, h7, h8, h2, hq, hB⟩ := hSw); go_simp); (try with_reducible rfl)
                    try simp only [Act.put, List.getElem_toArray, List.getElem_cons_succ, List.getElem_cons_zero, List.setIfInBounds_toArray, List.set_cons_zero, List.set_cons_succ]
                    refine wpAnyH_take (i := 8) (v := ?_) rfl (by kernel_rfl) (by kernel_rfl) (by kernel_rfl) (fun _ _ _ h => h) (Or.inl ⟨by kernel_rfl, ?_⟩) (by assumption) ?_
                    rotate_left
                    · (intro w hSw; (try dsimp only at hSw); (try obtain ⟨⟨c0, c1, c2, c3, c4, c5, c6, c7, c8, c9, c10, c11⟩, h7, h8, h2, hq, hB⟩ := hSw); go_simp); (try with_reducible rfl)
                    try simp only [Act.put, List.getElem_toArray, List.getElem_cons_succ, List.getElem_cons_zero, List.setIfInBounds_toArray, List.set_cons_zero, List.set_cons_succ]
                    refine wpAnyH_take (i := 9) (v := ?_) rfl (by kernel_rfl) (by kernel_rfl) (by kernel_rfl) (fun _ _ _ h => h) (Or.inl ⟨by kernel_rfl, ?_⟩) (by assumption) ?_
                    rotate_left
                    · (intro w hSw; (try dsimp only at hSw); (try obtain ⟨⟨c0, c1, c2, c3, c4, c5, c6, c7, c8, c9, c10, c11⟩, h7, h8, h2, hq, hB⟩ := hSw); go_simp); (try with_reducible rfl)
                    try simp only [Act.put, List.getElem_toArray, List.getElem_cons_succ, List.getElem_cons_zero, List.setIfInBounds_toArray, List.set_cons_zero, List.set_cons_succ]
                    generalize wNb0 = W3 at hHeld hQ ⊢
                    generalize W4.heap.size = q at hQ hqlt ⊢
                  all_goals
                    refine wpAnyH_take (i := 11) (v := ?_) rfl (by kernel_rfl) (by kernel_rfl) (by kernel_rfl) (fun _ _ _ h => h) (Or.inl ⟨by kernel_rfl, ?_⟩) (by assumption) ?_
                    rotate_left
                    · (intro w hSw; (try dsimp only at hSw); (try obtain ⟨⟨c0, c1, c2, c3, c4, c5, c6, c7, c8, c9, c10, c11⟩, h7, h8, h2, hq, hB⟩ := hSw); go_simp); (try with_reducible rfl)
                    try simp only [Act.put, List.getElem_toArray, List.getElem_cons_succ, List.getElem_cons_zero, List.setIfInBounds_toArray, List.set_cons_zero, List.set_cons_succ]
                    refine wpAnyH_ready (rs := [12]) (by kernel_rfl) (by simp) ?_
                    refine AllReadyH.cons rfl (fun K hK => ?_) ?_
                    rotate_left
                    · exact AllReadyH.nil
                    have hHn := hHeld
                    obtain ⟨⟨c0, c1, c2, c3, c4, c5, c6, c7, c8, c9, c10, c11⟩, h7, h8, h2, hq, hB⟩ := hHn
                    have hQ4 := hQ.s (.bool y1) (.int .i64 y2)
                    have f0 := hQ.fz 0
                    have f1 := hQ.fz 1
                    have g0 := hQ.c0
                    have g1 := hQ.c1
                    have hKeep := And.intro ((h7.other (p := ⟨q, 0, none⟩) (by show _ ≠ q; omega) (.bool y1)).other (p := ⟨q, 1, none⟩) (by show _ ≠ q; omega) (.int .i64 y2)) (And.intro ((h8.other (p := ⟨q, 0, none⟩) (by show _ ≠ q; omega) (.bool y1)).other (p := ⟨q, 1, none⟩) (by show _ ≠ q; omega) (.int .i64 y2)) (And.intro ((h2.other (p := ⟨q, 0, none⟩) (by show _ ≠ q; omega) (.bool y1)).other (p := ⟨q, 1, none⟩) (by show _ ≠ q; omega) (.int .i64 y2)) (And.intro ((hq.other (p := ⟨q, 0, none⟩) (by show _ ≠ q; omega) (.bool y1)).other (p := ⟨q, 1, none⟩) (by show _ ≠ q; omega) (.int .i64 y2)) (Below.set2 hB (b := q) (by omega) (.bool y1) (.int .i64 y2)))))
                    go_simp
                    refine hK.out _ _ ?_ (fun hHeld => ?_)
                    · (try dsimp only); exact ⟨⟨cell_set2 c0 (by omega), cell_set2 c1 (by omega), cell_set2 c2 (by omega), cell_set2 c3 (by omega), cell_set2 c4 (by omega), cell_set2 c5 (by omega), cell_set2 c6 (by omega), cell_set2 c7 (by omega), cell_set2 c8 (by omega), cell_set2 c9 (by omega), cell_set2 c10 (by omega), cell_set2 c11 (by omega)⟩, hKeep.1, hKeep.2.1, hKeep.2.2.1, hKeep.2.2.2.1, hKeep.2.2.2.2⟩
                    clear hK K f0 f1 g0 g1 hB hQ c0 c1 c2 c3 c4 c5 c6 c7 c8 c9 c10 c11 h7 h8 h2 hq
                    try simp only [Act.put, List.getElem_toArray, List.getElem_cons_succ, List.getElem_cons_zero, List.setIfInBounds_toArray, List.set_cons_zero, List.set_cons_succ]
                    refine wpAnyH_done (by kernel_rfl) ?_ _
                    refine NoPanic.normal ?_
                    clear hHeld
                    generalize (W3.setCell ⟨q, 0, none⟩ (.bool y1)).setCell ⟨q, 1, none⟩ (.int .i64 y2) = W5 at hQ4 hKeep ⊢
                    obtain ⟨h7, h8, h2, hq, hB⟩ := hKeep
                    have f0 := h2.fz 0
                    have f1 := h2.fz 1
                    have g0 := h2.c0
                    have g1 := h2.c1
                    have p0 := hq.c0
                    have p1 := hq.c1
                    have p2 := hQ4.c0
                    have p3 := hQ4.c1
                    have ot7 := (h7.other (p := ⟨w2.heap.size + 1, 0, none⟩) (by show _ ≠ w2.heap.size + 1; omega) (.bool y1)).other (p := ⟨w2.heap.size + 1, 1, none⟩) (by show _ ≠ w2.heap.size + 1; omega) (.int .i64 y2)
                    have ot8 := (h8.other (p := ⟨w2.heap.size + 1, 0, none⟩) (by show _ ≠ w2.heap.size + 1; omega) (.bool y1)).other (p := ⟨w2.heap.size + 1, 1, none⟩) (by show _ ≠ w2.heap.size + 1; omega) (.int .i64 y2)
                    have HR := Lib.hid (And.intro ot7 (And.intro ot8 (And.intro (h2.s (.bool y1) (.int .i64 y2)) (Below.set2 hB (b := w2.heap.size + 1) (by omega) (.bool y1) (.int .i64 y2)))))
                    have ab : ((g != nt) == (g != !nt)) = false := by cases g <;> cases nt <;> rfl
                    clear h7 h8 h2 hq hB hQ4 ot7 ot8
                    go_wp2
                    go_roundw
                    case rel => exact ⟨k + 1, (y1, y2), by omega, by simp, BX.1, BX.2, HR.out.1, HR.out.2.1, HR.out.2.2.1, HR.out.2.2.2⟩
                    case measure => simp [RowKit.intOf]; omega
        · obtain rfl : k = n := by omega
          clear h7 h8 h2
          go_wp2
          go_ret
          exact ⟨rfl, hB⟩

end Go.Proofs.YtaamhjjdhebjfaaDoor
