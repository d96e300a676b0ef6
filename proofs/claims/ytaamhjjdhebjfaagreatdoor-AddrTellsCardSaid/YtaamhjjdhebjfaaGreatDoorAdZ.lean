/- AddrTells: the walk. -/
import Derived.Test.YtaamhjjdhebjfaaGreatDoorAdZe
import Derived.Test.YtaamhjjdhebjfaaGreatDoorAdV
import Derived.Test.YtaamhjjdhebjfaaGreatDoorAdS
import Derived.Test.YtaamhjjdhebjfaaGreatDoorAdY
import Derived.DeepKeys
namespace Go.Proofs.YtaamhjjdhebjfaaGreatDoor
open Go.RowKit Go.Lib
set_option linter.unusedVariables false
set_option linter.unusedSimpArgs false


theorem keyRq : Tryz.prog.keyTypeAt 3 33 = true := by kernel_rfl
theorem cellsRq : Tryz.prog.cellsOf 33 = 7 := by kernel_rfl
theorem cellsRqA : Tryz.prog.cellsOf 31 = 3 := by kernel_rfl
set_option maxRecDepth 100000 in
theorem eqRq (r : Rg) (h : mayR r = true) (w : World) : (Op.equalIn 10000 33 (.agg #[.int .i64 r.a.k, .int .i64 r.a.n, .int .i64 r.a.m, .int .i64 r.b.k, .int .i64 r.b.n, .int .i64 r.b.m, .bool r.not]) (.agg #[.int .i64 r.a.k, .int .i64 r.a.n, .int .i64 r.a.m, .int .i64 r.b.k, .int .i64 r.b.n, .int .i64 r.b.m, .bool r.not])).run Tryz.prog w = .ok true w := by
  obtain ⟨ha, hb, _⟩ := mayR_iff.1 h
  have h1 := isAd.nums ha
  have h2 := isAd.nums hb
  have w1 := wf_i64 (x := r.a.k) (by have := h1.k0; have := h1.k6; omega)
  have w2 := wf_i64 (x := r.a.n) (by have := h1.n0; have := h1.n9; omega)
  have w3 := wf_i64 (x := r.a.m) (by have := h1.m0; have := h1.m9; omega)
  have w4 := wf_i64 (x := r.b.k) (by have := h2.k0; have := h2.k6; omega)
  have w5 := wf_i64 (x := r.b.n) (by have := h2.n0; have := h2.n9; omega)
  have w6 := wf_i64 (x := r.b.m) (by have := h2.m0; have := h2.m9; omega)
  have hk : Tryz.prog.keyLits 4 33 [.int .i64 r.a.k, .int .i64 r.a.n, .int .i64 r.a.m, .int .i64 r.b.k, .int .i64 r.b.n, .int .i64 r.b.m, .bool r.not] = some [.int .i64 r.a.k, .int .i64 r.a.n, .int .i64 r.a.m, .int .i64 r.b.k, .int .i64 r.b.n, .int .i64 r.b.m, .bool r.not] := by
    simp [Program.keyLits, Tryz.underlying33, Tryz.underlying31, Tryz.underlying3, Tryz.underlying4, cellsRq, cellsRqA, cellsI1, cellsB1, w1, w2, w3, w4, w5, w6]
    repeat (rw [if_pos (by intro i hi; rcases (by omega : i = 0 ∨ i = 1 ∨ i = 2) with rfl | rfl | rfl <;> simp)]; try simp)
  have hf : (Value.agg #[.int .i64 r.a.k, .int .i64 r.a.n, .int .i64 r.a.m, .int .i64 r.b.k, .int .i64 r.b.n, .int .i64 r.b.m, .bool r.not]).formed Tryz.prog 33 = true := by
    simp [Value.formed, Tryz.underlying33, cellsRq]
  obtain ⟨x, hr, hiff⟩ := run_equalIn_deep 9997 3 _ keyRq w 4 4 _ _ _ _ hf hf hk hk
  rw [hr, hiff.2 rfl]

theorem parR_may (l : List UInt8) : mayR (parR l).1 = true := by
  unfold parR
  by_cases h : mayR (rdR l) = true ∧ textR (rdR l) = l
  · rw [if_pos h]; exact h.1
  · rw [if_neg h]; decide
theorem eqRqv (X : Rg) (h : mayR X = true) (w : World) : (Op.equalIn 10000 33 (rgv X) (rgv X)).run Tryz.prog w = .ok true w := eqRq X h w

set_option maxRecDepth 100000 in
set_option maxHeartbeats 8000000 in
theorem tellsW (r : Rg) (s : ByteArray) (hs : s.size ≤ reachBytes) (w : World) (hfit : Fit6 w) :
    Calls Tryz.prog 3 #[rgv r, .string s] w fun e w' => e = .returned (.bool true) ∧ Below w.heap.size w w' := by
  have HS := Lib.hid (fun w h => shown_c w h)
  have M1 := fun w => may_c r w
  have M2 := fun w => rmay_c r w
  have G1 := fun w => rng_c r w
  have P1 := fun w h => print_c r w h
  have P2 := fun w => rprint_c r w
  obtain ⟨tx, cd, hpr⟩ : ∃ tx cd, priV r = .tuple #[.string tx, .int .i64 cd] := by unfold priV; split <;> exact ⟨_, _, rfl⟩
  rw [hpr] at P1 P2
  generalize mayR r = M at M1 M2
  clear hpr
  obtain ⟨⟨ak, an, am⟩, ⟨bk, bn, bm⟩, nt⟩ := r
  unfold rgv at M1 M2 G1 P1 P2 ⊢
  simp only at M1 M2 G1 P1 P2 ⊢
  have HM1 := Lib.hid M1
  have HM2 := Lib.hid M2
  have HG1 := Lib.hid G1
  have HP1 := Lib.hid P1
  have HP2 := Lib.hid P2
  have hB0 := (Below.refl _ w).alloc (Nat.le_refl _) (.cells #[.int .i64 ak, .int .i64 an, .int .i64 am, .int .i64 bk, .int .i64 bn, .int .i64 bm, .bool nt] 25)
  have HB := Lib.hid hB0
  have H7 := Lib.hid (Seven.new w 25 (.int .i64 ak) (.int .i64 an) (.int .i64 am) (.int .i64 bk) (.int .i64 bn) (.int .i64 bm) (.bool nt))
  have HF := Lib.hid (hfit.below hB0)
  clear M1 M2 G1 P1 P2 hB0 hfit
  by_cases c1 : 200 < s.size
  · have t1 : (200 : Int) < (s.size : Int) := by omega
    go_enter Tryz.func3, Tryz.ntmps3
    go_wp2_with fail
    refine (HS.out _ HF.out).mono ?_
    rintro e w1 ⟨rfl, hB⟩
    have HB1 := Lib.hid (HB.out.trans (hB.mono HB.out.size))
    clear hB
    go_wp2
    go_ret
    exact ⟨rfl, HB1.out⟩
  · have t1 : ¬ (200 : Int) < (s.size : Int) := by omega
    have Q1 := fun w h => parse_c s (by omega) w h
    have Q2 := fun w => rparse_c s (by omega) w
    rw [par_same] at Q2
    have hX := parR_may s.data.toList
    generalize parR s.data.toList = pr at Q1 Q2 hX
    obtain ⟨X, g⟩ := pr
    have E1 := fun w => eqRqv X hX w
    have G2 := fun w => rng_c X w
    clear hX
    unfold parV at Q1 Q2
    obtain ⟨⟨ck, cn, cm⟩, ⟨dk, dn, dm⟩, mt⟩ := X
    unfold rgv at Q1 Q2 E1 G2
    simp only at Q1 Q2 E1 G2
    have HQ1 := Lib.hid Q1
    have HQ2 := Lib.hid Q2
    have HG2 := Lib.hid G2
    clear Q1 Q2 G2 c1
    go_enter Tryz.func3, Tryz.ntmps3
    go_wp2_with fail
    refine (HS.out _ HF.out).mono ?_
    rintro e w1 ⟨rfl, hB⟩
    have HB1 := Lib.hid (HB.out.trans (hB.mono HB.out.size))
    have HF1 := Lib.hid (HF.out.below hB)
    have H71 := Lib.hid (H7.out.beside hB)
    clear hB
    have q0 := H71.out.c0
    have q1 := H71.out.c1
    have q2 := H71.out.c2
    have q3 := H71.out.c3
    have q4 := H71.out.c4
    have q5 := H71.out.c5
    have q6 := H71.out.c6
    go_wp2_with fail
    refine (HP1.out _ HF1.out).mono ?_
    rintro e w2 ⟨rfl, hB⟩
    have HB2 := Lib.hid (HB1.out.trans (hB.mono HB1.out.size))
    have HF2 := Lib.hid (HF1.out.below hB)
    have H72 := Lib.hid (H71.out.beside hB)
    clear hB
    clear q0 q1 q2 q3 q4 q5 q6
    have q0 := H72.out.c0
    have q1 := H72.out.c1
    have q2 := H72.out.c2
    have q3 := H72.out.c3
    have q4 := H72.out.c4
    have q5 := H72.out.c5
    have q6 := H72.out.c6
    go_wp2_with fail
    refine (HG1.out _).mono ?_
    rintro e w3 ⟨rfl, hB⟩
    have HB3 := Lib.hid (HB2.out.trans (hB.mono HB2.out.size))
    have HF3 := Lib.hid (HF2.out.below hB)
    have H73 := Lib.hid (H72.out.beside hB)
    clear hB
    clear q0 q1 q2 q3 q4 q5 q6
    go_wp2_with fail
    refine (HP2.out _).mono ?_
    rintro e w4 ⟨rfl, hB⟩
    have HB4 := Lib.hid (HB3.out.trans (hB.mono HB3.out.size))
    have HF4 := Lib.hid (HF3.out.below hB)
    have H74 := Lib.hid (H73.out.beside hB)
    clear hB
    go_wp2_with fail
    refine (HQ1.out _ HF4.out).mono ?_
    rintro e w5 ⟨rfl, hB⟩
    have hBa := (Below.refl _ w5).alloc (Nat.le_refl _) (.cells #[.int .i64 ck, .int .i64 cn, .int .i64 cm, .int .i64 dk, .int .i64 dn, .int .i64 dm, .bool mt] 25)
    have hBc := hB.trans (hBa.mono hB.size)
    have HB5 := Lib.hid (HB4.out.trans (hBc.mono HB4.out.size))
    have HF5 := Lib.hid (HF4.out.below hBc)
    have H75 := Lib.hid (H74.out.beside hBc)
    have HX5 := Lib.hid (Seven.new w5 25 (.int .i64 ck) (.int .i64 cn) (.int .i64 cm) (.int .i64 dk) (.int .i64 dn) (.int .i64 dm) (.bool mt))
    clear hB hBa hBc
    go_wp2_with fail
    refine (HQ2.out _).mono ?_
    rintro e w6 ⟨rfl, hB⟩
    have hBa := (Below.refl _ w6).alloc (Nat.le_refl _) (.cells #[.int .i64 ck, .int .i64 cn, .int .i64 cm, .int .i64 dk, .int .i64 dn, .int .i64 dm, .bool mt] 33)
    have hBc := hB.trans (hBa.mono hB.size)
    have HB6 := Lib.hid (HB5.out.trans (hBc.mono HB5.out.size))
    have H76 := Lib.hid (H75.out.beside hBc)
    have HX6 := Lib.hid (HX5.out.beside hBc)
    have HY6 := Lib.hid (Seven.new w6 33 (.int .i64 ck) (.int .i64 cn) (.int .i64 cm) (.int .i64 dk) (.int .i64 dn) (.int .i64 dm) (.bool mt))
    clear hB hBa hBc HB HB1 HB2 HB3 HB4 HB5 H7 H71 H72 H73 H74 H75 HX5 HF HF1 HF2 HF3 HF4 HF5 HP1 HP2 HQ1 HQ2 HS
    go_wp2_with fail
    refine wp_region_noPanic ?_
    refine wp_region_held_drew (S := fun w' => (w'.cell? ⟨w.heap.size, 0, none⟩ = some (.int .i64 ak) ∧ w'.cell? ⟨w.heap.size, 1, none⟩ = some (.int .i64 an) ∧ w'.cell? ⟨w.heap.size, 2, none⟩ = some (.int .i64 am) ∧ w'.cell? ⟨w.heap.size, 3, none⟩ = some (.int .i64 bk) ∧ w'.cell? ⟨w.heap.size, 4, none⟩ = some (.int .i64 bn) ∧ w'.cell? ⟨w.heap.size, 5, none⟩ = some (.int .i64 bm) ∧ w'.cell? ⟨w.heap.size, 6, none⟩ = some (.bool nt) ∧ w'.cell? ⟨w5.heap.size, 0, none⟩ = some (.int .i64 ck) ∧ w'.cell? ⟨w5.heap.size, 1, none⟩ = some (.int .i64 cn) ∧ w'.cell? ⟨w5.heap.size, 2, none⟩ = some (.int .i64 cm) ∧ w'.cell? ⟨w5.heap.size, 3, none⟩ = some (.int .i64 dk) ∧ w'.cell? ⟨w5.heap.size, 4, none⟩ = some (.int .i64 dn) ∧ w'.cell? ⟨w5.heap.size, 5, none⟩ = some (.int .i64 dm) ∧ w'.cell? ⟨w5.heap.size, 6, none⟩ = some (.bool mt) ∧ w'.cell? ⟨w6.heap.size, 0, none⟩ = some (.int .i64 ck) ∧ w'.cell? ⟨w6.heap.size, 1, none⟩ = some (.int .i64 cn) ∧ w'.cell? ⟨w6.heap.size, 2, none⟩ = some (.int .i64 cm) ∧ w'.cell? ⟨w6.heap.size, 3, none⟩ = some (.int .i64 dk) ∧ w'.cell? ⟨w6.heap.size, 4, none⟩ = some (.int .i64 dn) ∧ w'.cell? ⟨w6.heap.size, 5, none⟩ = some (.int .i64 dm) ∧ w'.cell? ⟨w6.heap.size, 6, none⟩ = some (.bool mt)) ∧ Below w.heap.size w w') (by kernel_rfl) ?_ (fun hHeld => ?_)
    · (try dsimp only); exact ⟨⟨H76.out.drew.c0, H76.out.drew.c1, H76.out.drew.c2, H76.out.drew.c3, H76.out.drew.c4, H76.out.drew.c5, H76.out.drew.c6, HX6.out.drew.c0, HX6.out.drew.c1, HX6.out.drew.c2, HX6.out.drew.c3, HX6.out.drew.c4, HX6.out.drew.c5, HX6.out.drew.c6, HY6.out.drew.c0, HY6.out.drew.c1, HY6.out.drew.c2, HY6.out.drew.c3, HY6.out.drew.c4, HY6.out.drew.c5, HY6.out.drew.c6⟩, HB6.out.drew⟩
    refine wpAnyH_take (i := 0) (v := ?_) rfl (by kernel_rfl) (by kernel_rfl) (by kernel_rfl) (fun _ _ _ h => h) (Or.inl ⟨by kernel_rfl, ?_⟩) (by assumption) ?_
    rotate_left
    · (intro w hSw; (try dsimp only at hSw); (try obtain ⟨⟨c0, c1, c2, c3, c4, c5, c6, c7, c8, c9, c10, c11, c12, c13, c14, c15, c16, c17, c18, c19, c20⟩, hB⟩ := hSw); go_simp); (try with_reducible rfl)
    try simp only [Act.put, List.getElem_toArray, List.getElem_cons_succ, List.getElem_cons_zero, List.setIfInBounds_toArray, List.set_cons_zero, List.set_cons_succ]
    refine wpAnyH_take (i := 2) (v := ?_) rfl (by kernel_rfl) (by kernel_rfl) (by kernel_rfl) (fun _ _ _ h => h) (Or.inl ⟨by kernel_rfl, ?_⟩) (by assumption) ?_
    rotate_left
    · (intro w hSw; (try dsimp only at hSw); (try obtain ⟨⟨c0, c1, c2, c3, c4, c5, c6, c7, c8, c9, c10, c11, c12, c13, c14, c15, c16, c17, c18, c19, c20⟩, hB⟩ := hSw); go_simp); (try with_reducible rfl)
    try simp only [Act.put, List.getElem_toArray, List.getElem_cons_succ, List.getElem_cons_zero, List.setIfInBounds_toArray, List.set_cons_zero, List.set_cons_succ]
    refine wpAnyH_ready (rs := [1]) (by kernel_rfl) (by simp) ?_
    refine AllReadyH.cons rfl (fun K hK => ?_) ?_
    rotate_left
    · exact AllReadyH.nil
    go_simp
    have hHn := hHeld
    obtain ⟨⟨c0, c1, c2, c3, c4, c5, c6, c7, c8, c9, c10, c11, c12, c13, c14, c15, c16, c17, c18, c19, c20⟩, hB⟩ := hHn
    refine (HM1.out _).mono ?_
    rintro e wN ⟨rfl, hBN⟩
    clear c0 c1 c2 c3 c4 c5 c6 c7 c8 c9 c10 c11 c12 c13 c14 c15 c16 c17 c18 c19 c20 hB
    refine hK.out _ _ ?_ (fun hHeld => ?_)
    · (try dsimp only); obtain ⟨⟨c0, c1, c2, c3, c4, c5, c6, c7, c8, c9, c10, c11, c12, c13, c14, c15, c16, c17, c18, c19, c20⟩, hB⟩ := hHeld; exact ⟨⟨cell_keep hBN c0, cell_keep hBN c1, cell_keep hBN c2, cell_keep hBN c3, cell_keep hBN c4, cell_keep hBN c5, cell_keep hBN c6, cell_keep hBN c7, cell_keep hBN c8, cell_keep hBN c9, cell_keep hBN c10, cell_keep hBN c11, cell_keep hBN c12, cell_keep hBN c13, cell_keep hBN c14, cell_keep hBN c15, cell_keep hBN c16, cell_keep hBN c17, cell_keep hBN c18, cell_keep hBN c19, cell_keep hBN c20⟩, hB.trans (hBN.mono hB.size)⟩
    clear hK K
    try simp only [Act.put, List.getElem_toArray, List.getElem_cons_succ, List.getElem_cons_zero, List.setIfInBounds_toArray, List.set_cons_zero, List.set_cons_succ]
    refine wpAnyH_ready (rs := [3]) (by kernel_rfl) (by simp) ?_
    refine AllReadyH.cons rfl (fun K hK => ?_) ?_
    rotate_left
    · exact AllReadyH.nil
    go_simp
    have hHn := hHeld
    obtain ⟨⟨c0, c1, c2, c3, c4, c5, c6, c7, c8, c9, c10, c11, c12, c13, c14, c15, c16, c17, c18, c19, c20⟩, hB⟩ := hHn
    refine (HG1.out _).mono ?_
    rintro e wN ⟨rfl, hBN⟩
    clear c0 c1 c2 c3 c4 c5 c6 c7 c8 c9 c10 c11 c12 c13 c14 c15 c16 c17 c18 c19 c20 hB
    refine hK.out _ _ ?_ (fun hHeld => ?_)
    · (try dsimp only); obtain ⟨⟨c0, c1, c2, c3, c4, c5, c6, c7, c8, c9, c10, c11, c12, c13, c14, c15, c16, c17, c18, c19, c20⟩, hB⟩ := hHeld; exact ⟨⟨cell_keep hBN c0, cell_keep hBN c1, cell_keep hBN c2, cell_keep hBN c3, cell_keep hBN c4, cell_keep hBN c5, cell_keep hBN c6, cell_keep hBN c7, cell_keep hBN c8, cell_keep hBN c9, cell_keep hBN c10, cell_keep hBN c11, cell_keep hBN c12, cell_keep hBN c13, cell_keep hBN c14, cell_keep hBN c15, cell_keep hBN c16, cell_keep hBN c17, cell_keep hBN c18, cell_keep hBN c19, cell_keep hBN c20⟩, hB.trans (hBN.mono hB.size)⟩
    clear hK K
    try simp only [Act.put, List.getElem_toArray, List.getElem_cons_succ, List.getElem_cons_zero, List.setIfInBounds_toArray, List.set_cons_zero, List.set_cons_succ]
    refine wpAnyH_ready (rs := [4]) (by kernel_rfl) (by simp) ?_
    refine AllReadyH.cons rfl (fun K hK => ?_) ?_
    rotate_left
    · exact AllReadyH.nil
    go_simp
    have hHn := hHeld
    obtain ⟨⟨c0, c1, c2, c3, c4, c5, c6, c7, c8, c9, c10, c11, c12, c13, c14, c15, c16, c17, c18, c19, c20⟩, hB⟩ := hHn
    refine (HM2.out _).mono ?_
    rintro e wN ⟨rfl, hBN⟩
    clear c0 c1 c2 c3 c4 c5 c6 c7 c8 c9 c10 c11 c12 c13 c14 c15 c16 c17 c18 c19 c20 hB
    refine hK.out _ _ ?_ (fun hHeld => ?_)
    · (try dsimp only); obtain ⟨⟨c0, c1, c2, c3, c4, c5, c6, c7, c8, c9, c10, c11, c12, c13, c14, c15, c16, c17, c18, c19, c20⟩, hB⟩ := hHeld; exact ⟨⟨cell_keep hBN c0, cell_keep hBN c1, cell_keep hBN c2, cell_keep hBN c3, cell_keep hBN c4, cell_keep hBN c5, cell_keep hBN c6, cell_keep hBN c7, cell_keep hBN c8, cell_keep hBN c9, cell_keep hBN c10, cell_keep hBN c11, cell_keep hBN c12, cell_keep hBN c13, cell_keep hBN c14, cell_keep hBN c15, cell_keep hBN c16, cell_keep hBN c17, cell_keep hBN c18, cell_keep hBN c19, cell_keep hBN c20⟩, hB.trans (hBN.mono hB.size)⟩
    clear hK K
    try simp only [Act.put, List.getElem_toArray, List.getElem_cons_succ, List.getElem_cons_zero, List.setIfInBounds_toArray, List.set_cons_zero, List.set_cons_succ]
    refine wpAnyH_take (i := 5) (v := ?_) rfl (by kernel_rfl) (by kernel_rfl) (by kernel_rfl) (fun _ _ _ h => h) (Or.inl ⟨by kernel_rfl, ?_⟩) (by assumption) ?_
    rotate_left
    · (intro w hSw; (try dsimp only at hSw); (try obtain ⟨⟨c0, c1, c2, c3, c4, c5, c6, c7, c8, c9, c10, c11, c12, c13, c14, c15, c16, c17, c18, c19, c20⟩, hB⟩ := hSw); go_simp); (try with_reducible rfl)
    try simp only [Act.put, List.getElem_toArray, List.getElem_cons_succ, List.getElem_cons_zero, List.setIfInBounds_toArray, List.set_cons_zero, List.set_cons_succ]
    refine wpAnyH_take (i := 6) (v := ?_) rfl (by kernel_rfl) (by kernel_rfl) (by kernel_rfl) (fun _ _ _ h => h) (Or.inl ⟨by kernel_rfl, ?_⟩) (by assumption) ?_
    rotate_left
    · (intro w hSw; (try dsimp only at hSw); (try obtain ⟨⟨c0, c1, c2, c3, c4, c5, c6, c7, c8, c9, c10, c11, c12, c13, c14, c15, c16, c17, c18, c19, c20⟩, hB⟩ := hSw); go_simp); (try with_reducible rfl)
    try simp only [Act.put, List.getElem_toArray, List.getElem_cons_succ, List.getElem_cons_zero, List.setIfInBounds_toArray, List.set_cons_zero, List.set_cons_succ]
    refine wpAnyH_take (i := 7) (v := ?_) rfl (by kernel_rfl) (by kernel_rfl) (by kernel_rfl) (fun _ _ _ h => h) (Or.inl ⟨by kernel_rfl, ?_⟩) (by assumption) ?_
    rotate_left
    · (intro w hSw; (try dsimp only at hSw); (try obtain ⟨⟨c0, c1, c2, c3, c4, c5, c6, c7, c8, c9, c10, c11, c12, c13, c14, c15, c16, c17, c18, c19, c20⟩, hB⟩ := hSw); go_simp); (try with_reducible rfl)
    try simp only [Act.put, List.getElem_toArray, List.getElem_cons_succ, List.getElem_cons_zero, List.setIfInBounds_toArray, List.set_cons_zero, List.set_cons_succ]
    refine wpAnyH_take (i := 8) (v := ?_) rfl (by kernel_rfl) (by kernel_rfl) (by kernel_rfl) (fun _ _ _ h => h) (Or.inl ⟨by kernel_rfl, ?_⟩) (by assumption) ?_
    rotate_left
    · (intro w hSw; (try dsimp only at hSw); (try obtain ⟨⟨c0, c1, c2, c3, c4, c5, c6, c7, c8, c9, c10, c11, c12, c13, c14, c15, c16, c17, c18, c19, c20⟩, hB⟩ := hSw); go_simp); (try with_reducible rfl)
    try simp only [Act.put, List.getElem_toArray, List.getElem_cons_succ, List.getElem_cons_zero, List.setIfInBounds_toArray, List.set_cons_zero, List.set_cons_succ]
    refine wpAnyH_take (i := 9) (v := ?_) rfl (by kernel_rfl) (by kernel_rfl) (by kernel_rfl) (fun _ _ _ h => h) (Or.inl ⟨by kernel_rfl, ?_⟩) (by assumption) ?_
    rotate_left
    · (intro w hSw; (try dsimp only at hSw); (try obtain ⟨⟨c0, c1, c2, c3, c4, c5, c6, c7, c8, c9, c10, c11, c12, c13, c14, c15, c16, c17, c18, c19, c20⟩, hB⟩ := hSw); go_simp); (try with_reducible rfl)
    try simp only [Act.put, List.getElem_toArray, List.getElem_cons_succ, List.getElem_cons_zero, List.setIfInBounds_toArray, List.set_cons_zero, List.set_cons_succ]
    refine wpAnyH_take (i := 10) (v := ?_) rfl (by kernel_rfl) (by kernel_rfl) (by kernel_rfl) (fun _ _ _ h => h) (Or.inl ⟨by kernel_rfl, ?_⟩) (by assumption) ?_
    rotate_left
    · (intro w hSw; (try dsimp only at hSw); (try obtain ⟨⟨c0, c1, c2, c3, c4, c5, c6, c7, c8, c9, c10, c11, c12, c13, c14, c15, c16, c17, c18, c19, c20⟩, hB⟩ := hSw); go_simp); (try with_reducible rfl)
    try simp only [Act.put, List.getElem_toArray, List.getElem_cons_succ, List.getElem_cons_zero, List.setIfInBounds_toArray, List.set_cons_zero, List.set_cons_succ]
    refine wpAnyH_take (i := 11) (v := ?_) rfl (by kernel_rfl) (by kernel_rfl) (by kernel_rfl) (fun _ _ _ h => h) (Or.inl ⟨by kernel_rfl, ?_⟩) (by assumption) ?_
    rotate_left
    · (intro w hSw; (try dsimp only at hSw); (try obtain ⟨⟨c0, c1, c2, c3, c4, c5, c6, c7, c8, c9, c10, c11, c12, c13, c14, c15, c16, c17, c18, c19, c20⟩, hB⟩ := hSw); go_simp); (try with_reducible rfl)
    try simp only [Act.put, List.getElem_toArray, List.getElem_cons_succ, List.getElem_cons_zero, List.setIfInBounds_toArray, List.set_cons_zero, List.set_cons_succ]
    refine wpAnyH_take (i := 12) (v := ?_) rfl (by kernel_rfl) (by kernel_rfl) (by kernel_rfl) (fun _ _ _ h => h) (Or.inl ⟨by kernel_rfl, ?_⟩) (by assumption) ?_
    rotate_left
    · (intro w hSw; (try dsimp only at hSw); (try obtain ⟨⟨c0, c1, c2, c3, c4, c5, c6, c7, c8, c9, c10, c11, c12, c13, c14, c15, c16, c17, c18, c19, c20⟩, hB⟩ := hSw); go_simp); (try with_reducible rfl)
    try simp only [Act.put, List.getElem_toArray, List.getElem_cons_succ, List.getElem_cons_zero, List.setIfInBounds_toArray, List.set_cons_zero, List.set_cons_succ]
    refine wpAnyH_take (i := 13) (v := ?_) rfl (by kernel_rfl) (by kernel_rfl) (by kernel_rfl) (fun _ _ _ h => h) (Or.inl ⟨by kernel_rfl, ?_⟩) (by assumption) ?_
    rotate_left
    · (intro w hSw; (try dsimp only at hSw); (try obtain ⟨⟨c0, c1, c2, c3, c4, c5, c6, c7, c8, c9, c10, c11, c12, c13, c14, c15, c16, c17, c18, c19, c20⟩, hB⟩ := hSw); go_simp); (try with_reducible rfl)
    try simp only [Act.put, List.getElem_toArray, List.getElem_cons_succ, List.getElem_cons_zero, List.setIfInBounds_toArray, List.set_cons_zero, List.set_cons_succ]
    refine wpAnyH_take (i := 14) (v := ?_) rfl (by kernel_rfl) (by kernel_rfl) (by kernel_rfl) (fun _ _ _ h => h) (Or.inl ⟨by kernel_rfl, ?_⟩) (by assumption) ?_
    rotate_left
    · (intro w hSw; (try dsimp only at hSw); (try obtain ⟨⟨c0, c1, c2, c3, c4, c5, c6, c7, c8, c9, c10, c11, c12, c13, c14, c15, c16, c17, c18, c19, c20⟩, hB⟩ := hSw); go_simp); (try with_reducible rfl)
    try simp only [Act.put, List.getElem_toArray, List.getElem_cons_succ, List.getElem_cons_zero, List.setIfInBounds_toArray, List.set_cons_zero, List.set_cons_succ]
    refine wpAnyH_take (i := 15) (v := ?_) rfl (by kernel_rfl) (by kernel_rfl) (by kernel_rfl) (fun _ _ _ h => h) (Or.inl ⟨by kernel_rfl, ?_⟩) (by assumption) ?_
    rotate_left
    · (intro w hSw; (try dsimp only at hSw); (try obtain ⟨⟨c0, c1, c2, c3, c4, c5, c6, c7, c8, c9, c10, c11, c12, c13, c14, c15, c16, c17, c18, c19, c20⟩, hB⟩ := hSw); go_simp); (try with_reducible rfl)
    try simp only [Act.put, List.getElem_toArray, List.getElem_cons_succ, List.getElem_cons_zero, List.setIfInBounds_toArray, List.set_cons_zero, List.set_cons_succ]
    refine wpAnyH_take (i := 16) (v := ?_) rfl (by kernel_rfl) (by kernel_rfl) (by kernel_rfl) (fun _ _ _ h => h) (Or.inl ⟨by kernel_rfl, ?_⟩) (by assumption) ?_
    rotate_left
    · (intro w hSw; (try dsimp only at hSw); (try obtain ⟨⟨c0, c1, c2, c3, c4, c5, c6, c7, c8, c9, c10, c11, c12, c13, c14, c15, c16, c17, c18, c19, c20⟩, hB⟩ := hSw); go_simp); (try with_reducible rfl)
    try simp only [Act.put, List.getElem_toArray, List.getElem_cons_succ, List.getElem_cons_zero, List.setIfInBounds_toArray, List.set_cons_zero, List.set_cons_succ]
    refine wpAnyH_take (i := 17) (v := ?_) rfl (by kernel_rfl) (by kernel_rfl) (by kernel_rfl) (fun _ _ _ h => h) (Or.inl ⟨by kernel_rfl, ?_⟩) (by assumption) ?_
    rotate_left
    · (intro w hSw; (try dsimp only at hSw); (try obtain ⟨⟨c0, c1, c2, c3, c4, c5, c6, c7, c8, c9, c10, c11, c12, c13, c14, c15, c16, c17, c18, c19, c20⟩, hB⟩ := hSw); go_simp); (try with_reducible rfl)
    try simp only [Act.put, List.getElem_toArray, List.getElem_cons_succ, List.getElem_cons_zero, List.setIfInBounds_toArray, List.set_cons_zero, List.set_cons_succ]
    refine wpAnyH_take (i := 19) (v := ?_) rfl (by kernel_rfl) (by kernel_rfl) (by kernel_rfl) (fun _ _ _ h => h) (Or.inl ⟨by kernel_rfl, ?_⟩) (by assumption) ?_
    rotate_left
    · (intro w hSw; (try dsimp only at hSw); (try obtain ⟨⟨c0, c1, c2, c3, c4, c5, c6, c7, c8, c9, c10, c11, c12, c13, c14, c15, c16, c17, c18, c19, c20⟩, hB⟩ := hSw); go_simp); (try with_reducible rfl)
    try simp only [Act.put, List.getElem_toArray, List.getElem_cons_succ, List.getElem_cons_zero, List.setIfInBounds_toArray, List.set_cons_zero, List.set_cons_succ]
    refine wpAnyH_ready (rs := [18]) (by kernel_rfl) (by simp) ?_
    refine AllReadyH.cons rfl (fun K hK => ?_) ?_
    rotate_left
    · exact AllReadyH.nil
    go_simp
    have hHn := hHeld
    obtain ⟨⟨c0, c1, c2, c3, c4, c5, c6, c7, c8, c9, c10, c11, c12, c13, c14, c15, c16, c17, c18, c19, c20⟩, hB⟩ := hHn
    refine (HG2.out _).mono ?_
    rintro e wN ⟨rfl, hBN⟩
    clear c0 c1 c2 c3 c4 c5 c6 c7 c8 c9 c10 c11 c12 c13 c14 c15 c16 c17 c18 c19 c20 hB
    refine hK.out _ _ ?_ (fun hHeld => ?_)
    · (try dsimp only); obtain ⟨⟨c0, c1, c2, c3, c4, c5, c6, c7, c8, c9, c10, c11, c12, c13, c14, c15, c16, c17, c18, c19, c20⟩, hB⟩ := hHeld; exact ⟨⟨cell_keep hBN c0, cell_keep hBN c1, cell_keep hBN c2, cell_keep hBN c3, cell_keep hBN c4, cell_keep hBN c5, cell_keep hBN c6, cell_keep hBN c7, cell_keep hBN c8, cell_keep hBN c9, cell_keep hBN c10, cell_keep hBN c11, cell_keep hBN c12, cell_keep hBN c13, cell_keep hBN c14, cell_keep hBN c15, cell_keep hBN c16, cell_keep hBN c17, cell_keep hBN c18, cell_keep hBN c19, cell_keep hBN c20⟩, hB.trans (hBN.mono hB.size)⟩
    clear hK K
    try simp only [Act.put, List.getElem_toArray, List.getElem_cons_succ, List.getElem_cons_zero, List.setIfInBounds_toArray, List.set_cons_zero, List.set_cons_succ]
    refine wpAnyH_take (i := 20) (v := ?_) rfl (by kernel_rfl) (by kernel_rfl) (by kernel_rfl) (fun _ _ _ h => h) (Or.inl ⟨by kernel_rfl, ?_⟩) (by assumption) ?_
    rotate_left
    · (intro w hSw; (try dsimp only at hSw); (try obtain ⟨⟨c0, c1, c2, c3, c4, c5, c6, c7, c8, c9, c10, c11, c12, c13, c14, c15, c16, c17, c18, c19, c20⟩, hB⟩ := hSw); go_simp); (try with_reducible rfl)
    try simp only [Act.put, List.getElem_toArray, List.getElem_cons_succ, List.getElem_cons_zero, List.setIfInBounds_toArray, List.set_cons_zero, List.set_cons_succ]
    refine wpAnyH_take (i := 21) (v := ?_) rfl (by kernel_rfl) (by kernel_rfl) (by kernel_rfl) (fun _ _ _ h => h) (Or.inl ⟨by kernel_rfl, ?_⟩) (by assumption) ?_
    rotate_left
    · (intro w hSw; (try dsimp only at hSw); (try obtain ⟨⟨c0, c1, c2, c3, c4, c5, c6, c7, c8, c9, c10, c11, c12, c13, c14, c15, c16, c17, c18, c19, c20⟩, hB⟩ := hSw); go_simp); (try with_reducible rfl)
    try simp only [Act.put, List.getElem_toArray, List.getElem_cons_succ, List.getElem_cons_zero, List.setIfInBounds_toArray, List.set_cons_zero, List.set_cons_succ]
    refine wpAnyH_take (i := 22) (v := ?_) rfl (by kernel_rfl) (by kernel_rfl) (by kernel_rfl) (fun _ _ _ h => h) (Or.inl ⟨by kernel_rfl, ?_⟩) (by assumption) ?_
    rotate_left
    · (intro w hSw; (try dsimp only at hSw); (try obtain ⟨⟨c0, c1, c2, c3, c4, c5, c6, c7, c8, c9, c10, c11, c12, c13, c14, c15, c16, c17, c18, c19, c20⟩, hB⟩ := hSw); go_simp); (try with_reducible rfl)
    try simp only [Act.put, List.getElem_toArray, List.getElem_cons_succ, List.getElem_cons_zero, List.setIfInBounds_toArray, List.set_cons_zero, List.set_cons_succ]
    refine wpAnyH_take (i := 23) (v := ?_) rfl (by kernel_rfl) (by kernel_rfl) (by kernel_rfl) (fun _ _ _ h => h) (Or.inl ⟨by kernel_rfl, ?_⟩) (by assumption) ?_
    rotate_left
    · (intro w hSw; (try dsimp only at hSw); (try obtain ⟨⟨c0, c1, c2, c3, c4, c5, c6, c7, c8, c9, c10, c11, c12, c13, c14, c15, c16, c17, c18, c19, c20⟩, hB⟩ := hSw); go_simp); (try with_reducible rfl)
    try simp only [Act.put, List.getElem_toArray, List.getElem_cons_succ, List.getElem_cons_zero, List.setIfInBounds_toArray, List.set_cons_zero, List.set_cons_succ]
    refine wpAnyH_take (i := 24) (v := ?_) rfl (by kernel_rfl) (by kernel_rfl) (by kernel_rfl) (fun _ _ _ h => h) (Or.inl ⟨by kernel_rfl, ?_⟩) (by assumption) ?_
    rotate_left
    · (intro w hSw; (try dsimp only at hSw); (try obtain ⟨⟨c0, c1, c2, c3, c4, c5, c6, c7, c8, c9, c10, c11, c12, c13, c14, c15, c16, c17, c18, c19, c20⟩, hB⟩ := hSw); go_simp); (try with_reducible rfl)
    try simp only [Act.put, List.getElem_toArray, List.getElem_cons_succ, List.getElem_cons_zero, List.setIfInBounds_toArray, List.set_cons_zero, List.set_cons_succ]
    refine wpAnyH_take (i := 25) (v := ?_) rfl (by kernel_rfl) (by kernel_rfl) (by kernel_rfl) (fun _ _ _ h => h) (Or.inl ⟨by kernel_rfl, ?_⟩) (by assumption) ?_
    rotate_left
    · (intro w hSw; (try dsimp only at hSw); (try obtain ⟨⟨c0, c1, c2, c3, c4, c5, c6, c7, c8, c9, c10, c11, c12, c13, c14, c15, c16, c17, c18, c19, c20⟩, hB⟩ := hSw); go_simp); (try with_reducible rfl)
    try simp only [Act.put, List.getElem_toArray, List.getElem_cons_succ, List.getElem_cons_zero, List.setIfInBounds_toArray, List.set_cons_zero, List.set_cons_succ]
    refine wpAnyH_take (i := 26) (v := ?_) rfl (by kernel_rfl) (by kernel_rfl) (by kernel_rfl) (fun _ _ _ h => h) (Or.inl ⟨by kernel_rfl, ?_⟩) (by assumption) ?_
    rotate_left
    · (intro w hSw; (try dsimp only at hSw); (try obtain ⟨⟨c0, c1, c2, c3, c4, c5, c6, c7, c8, c9, c10, c11, c12, c13, c14, c15, c16, c17, c18, c19, c20⟩, hB⟩ := hSw); go_simp); (try with_reducible rfl)
    try simp only [Act.put, List.getElem_toArray, List.getElem_cons_succ, List.getElem_cons_zero, List.setIfInBounds_toArray, List.set_cons_zero, List.set_cons_succ]
    refine wpAnyH_take (i := 27) (v := ?_) rfl (by kernel_rfl) (by kernel_rfl) (by kernel_rfl) (fun _ _ _ h => h) (Or.inl ⟨by kernel_rfl, ?_⟩) (by assumption) ?_
    rotate_left
    · (intro w hSw; (try dsimp only at hSw); (try obtain ⟨⟨c0, c1, c2, c3, c4, c5, c6, c7, c8, c9, c10, c11, c12, c13, c14, c15, c16, c17, c18, c19, c20⟩, hB⟩ := hSw); go_simp); (try with_reducible rfl)
    try simp only [Act.put, List.getElem_toArray, List.getElem_cons_succ, List.getElem_cons_zero, List.setIfInBounds_toArray, List.set_cons_zero, List.set_cons_succ]
    refine wpAnyH_done (by kernel_rfl) ?_ _
    refine NoPanic.normal ?_
    go_wp2
    go_ret
    exact ⟨by simp, hHeld.2⟩

end Go.Proofs.YtaamhjjdhebjfaaGreatDoor
