/- TransMakes: the walk. -/
import Derived.Test.YthnadcmejaciaaaDoorTrV
import Derived.ChangeKeysEq
namespace Go.Proofs.YthnadcmejaciaaaDoor
open Go.RowKit
set_option linter.unusedVariables false
set_option linter.unusedSimpArgs false

theorem eqItems_same {P : Program} (w : World) (d : Nat) {e : TypeId} (he : P.plainKey e = true) (xs : Array Value) (good : ∀ (i : Nat) (v : Value), xs[i]? = some v → (Op.equalIn d e v v).run P w = .ok true w) :
    ∀ is : List Nat, (∀ i ∈ is, i < xs.size) → (Op.eqItems d e 1 xs xs is).run P w = .ok true w
  | [], _ => by simp [Op.eqItems]
  | i :: is, h => by
    obtain ⟨v, hv⟩ : ∃ v, xs[i]? = some v := ⟨xs[i]'(h i (by simp)), by simp [h i (by simp)]⟩
    have hp := run_part_plain (P := P) w he hv
    have ih := eqItems_same w d he xs good is (fun j hj => h j (by simp [hj]))
    simp only [Op.eqItems, Nat.mul_one, Sem.run_bind, hp, Result.andThen_ok, good i v hv]
    simpa using ih

theorem eq_array {P : Program} (w : World) {t e : TypeId} {n : Nat} (xs : Array Value) (hu : P.underlying t = some (.array n e)) (he : P.plainKey e = true) (hc : P.cellsOf e = 1) (hi : ∃ i, P.info? e = some i) (hs : xs.size = n)
    (good : ∀ (i : Nat) (v : Value), xs[i]? = some v → (Op.equalIn 9999 e v v).run P w = .ok true w) : (Op.equalIn 10000 t (.agg xs) (.agg xs)).run P w = .ok true w := by
  obtain ⟨i, hi⟩ := hi
  rw [show (10000 : Nat) = 9999 + 1 from rfl, run_equalIn_array w 9999 xs xs hu hi, hc]
  exact eqItems_same w 9999 he xs good _ (fun j hj => by rw [hs]; simpa using hj)

theorem infoU : ∃ i, Tryd.prog.info? 5 = some i := info_of_underlying Tryd.underlying5
theorem plainU : Tryd.prog.plainKey 5 = true := by kernel_rfl
theorem oneU : Tryd.prog.cellsOf 5 = 1 := by kernel_rfl
theorem eq_mv (f : Nat → UInt8) (w : World) : (Op.equalIn 10000 23 (.agg (garr (mv f))) (.agg (garr (mv f)))).run Tryd.prog w = .ok true w := by
  refine eq_array w _ Tryd.underlying23 plainU oneU infoU (garr_size _) (fun i v hv => ?_)
  have hi : i < 256 := by
    rcases Nat.lt_or_ge i 256 with h | h
    · exact h
    · rw [Array.getElem?_eq_none (by rw [garr_size]; exact h)] at hv; cases hv
  rw [garr_at _ i hi] at hv
  cases hv
  rw [show (9999 : Nat) = 9998 + 1 from rfl]
  unfold mv
  rw [run_equalIn_int w 9998 _ .u8 .u8 _ _ Tryd.underlying5]
  simp
theorem mkV_any (fr tg : List UInt8) : ∃ (G : Nat → UInt8) (z : Int), mkV fr tg = .tuple #[.agg (garr (mv G)), .int .i64 z] := by
  unfold mkV
  split
  · exact ⟨_, _, rfl⟩
  · exact ⟨fun _ => 0, 100, rfl⟩

set_option maxRecDepth 100000 in
set_option maxHeartbeats 20000000 in
theorem makesW (A C S : ByteArray) (f : Nat → UInt8) (ha : A.size ≤ reachBytes) (hc : C.size ≤ reachBytes) (hs : S.size ≤ reachBytes) (w : World) (hm : MaxL w) :
    Calls Tryd.prog 3 #[.string A, .string C, .string S, .agg (garr (mv f))] w fun e w' => e = .returned (.bool true) ∧ Below w.heap.size w w' := by
  obtain ⟨hz, hsz⟩ := zero_of_info (P := Tryd.prog) infoM
  obtain ⟨hzr, hszr⟩ := zero_of_info (P := Tryd.prog) infoR
  have HS := Lib.hid (fun w hm => shown_c w hm)
  have hb0 : Below w.heap.size w (w.alloc (.cells (garr (mv f)) 23)) := (Below.refl _ w).alloc (Nat.le_refl _) _
  have HM := Lib.hid (hm.below hb0)
  have HB0 := Lib.hid (And.intro hb0 (GR.new 23 w (mv f)))
  have hrb : reachBytes = 140737488351232 := by decide
  rw [hrb] at hs ha hc
  clear hm hrb hb0
  by_cases hbig : 300 < A.size
  · have t1 : (300 : Int) < (A.size : Int) := by omega
    clear hbig
    go_enter Tryd.func3, Tryd.ntmps3
    go_wp2_with fail
    refine (HS.out _ HM.out).mono ?_
    rintro e w1 ⟨rfl, hB1⟩
    have HB := Lib.hid (HB0.out.1.trans (hB1.mono HB0.out.1.size))
    clear hB1
    go_wp2
    go_ret
    exact ⟨rfl, HB.out⟩
  · have t1 : ¬ (300 : Int) < (A.size : Int) := by omega
    by_cases hbig2 : 300 < C.size
    · have t2 : (300 : Int) < (C.size : Int) := by omega
      clear hbig hbig2
      go_enter Tryd.func3, Tryd.ntmps3
      go_wp2_with fail
      refine (HS.out _ HM.out).mono ?_
      rintro e w1 ⟨rfl, hB1⟩
      have HB := Lib.hid (HB0.out.1.trans (hB1.mono HB0.out.1.size))
      clear hB1
      go_wp2
      go_ret
      exact ⟨rfl, HB.out⟩
    · have t2 : ¬ (300 : Int) < (C.size : Int) := by omega
      by_cases hbig3 : 300 < S.size
      · have t3 : (300 : Int) < (S.size : Int) := by omega
        clear hbig hbig2 hbig3
        go_enter Tryd.func3, Tryd.ntmps3
        go_wp2_with fail
        refine (HS.out _ HM.out).mono ?_
        rintro e w1 ⟨rfl, hB1⟩
        have HB := Lib.hid (HB0.out.1.trans (hB1.mono HB0.out.1.size))
        clear hB1
        go_wp2
        go_ret
        exact ⟨rfl, HB.out⟩
      · have t3 : ¬ (300 : Int) < (S.size : Int) := by omega
        have M1 := fun w => make_c A C (fun h => by omega) w
        have M2 := fun w => rmake_c A C (by omega) (by omega) w
        obtain ⟨G, z, hG⟩ := mkV_any A.data.toList C.data.toList
        rw [hG] at M1 M2
        obtain ⟨X, hX⟩ : ∃ X : ByteArray, X = ⟨(S.data.toList.map fun b => f b.toNat).toArray⟩ := ⟨_, rfl⟩
        have A1 := fun w => apply_c f S (by omega) w
        have A2 := fun w => rapply_c f S (by omega) w
        rw [← hX] at A1 A2
        have H1 := Lib.hid M1
        have H2 := Lib.hid M2
        have HA1 := Lib.hid A1
        have HA2 := Lib.hid A2
        have HA3 := Lib.hid (fun w => same_c w)
        have HA4 := Lib.hid (fun w => rsame_c w)
        have q1 := eq_mv G
        have q2 := eq_mv same
        clear hbig hbig2 hbig3 hG hX M1 M2 A1 A2
        go_enter Tryd.func3, Tryd.ntmps3
        go_wp2_with fail
        refine (HS.out _ HM.out).mono ?_
        rintro e w1 ⟨rfl, hB1⟩
        have HB1 := Lib.hid (And.intro (HB0.out.1.trans (hB1.mono HB0.out.1.size)) (HB0.out.2.beside hB1))
        clear hB1
        go_wp2_with fail
        refine (H1.out _).mono ?_
        rintro e w2 ⟨rfl, hB2⟩
        have hst := store_new w2 rtM (mv G) u8z (one_mv G)
        have hb2 := HB1.out.1.trans (hB2.mono HB1.out.1.size)
        have HX2 := Lib.hid (And.intro (hb2.alloc hb2.size (.cells (garr (mv G)) 23)) (And.intro (GR.new 23 w2 (mv G)) ((HB1.out.2.beside hB2).alloc (.cells (garr (mv G)) 23))))
        clear hB2 hb2
        go_wp2_with fail
        clear hst
        refine (H2.out _).mono ?_
        rintro e w3 ⟨rfl, hB3⟩
        have hst := store_new w3 rtR (mv G) u8z (one_mv G)
        have hb3 := HX2.out.1.trans (hB3.mono HX2.out.1.size)
        have hbb := hb3.alloc hb3.size (.cells (garr (mv G)) 28)
        have hg1 := (HX2.out.2.1.beside hB3).alloc (.cells (garr (mv G)) 28)
        have hg0 := (HX2.out.2.2.beside hB3).alloc (.cells (garr (mv G)) 28)
        have hg2 := GR.new 28 w3 (mv G)
        have HY := Lib.hid (And.intro hbb (And.intro hg1 (And.intro hg0 hg2)))
        clear hB3 hb3 hbb hg1 hg0 hg2
        go_wp2_with fail
        clear hst
        obtain ⟨hbb, hg1, hg0, hg2⟩ := HY.out
        obtain ⟨B1, hB1d⟩ : ∃ B1, B1 = w2.heap.size := ⟨_, rfl⟩
        obtain ⟨B2, hB2d⟩ : ∃ B2, B2 = w3.heap.size := ⟨_, rfl⟩
        rw [← hB1d] at hg1
        rw [← hB2d] at hg2
        simp only [← hB1d, ← hB2d]
        clear hB1d hB2d HY
        refine wp_region_noPanic ?_
        refine wp_region_held_drew (S := fun w' => GR 23 w' B1 (mv G) ∧ GR 28 w' B2 (mv G) ∧ GR 23 w' w.heap.size (mv f) ∧ Below w.heap.size w w') (by kernel_rfl) ?_ (fun hHeld => ?_)
        · (try dsimp only); exact ⟨hg1.drew, hg2.drew, hg0.drew, hbb.drew⟩
        refine wpAnyH_take (i := 0) (v := .agg (garr (mv G))) rfl (by kernel_rfl) (by kernel_rfl) (by kernel_rfl) (fun _ _ _ h => h) (Or.inl ⟨by kernel_rfl, fun w hSw => run_load_gr hSw.1 rtM rfl rfl⟩) (by assumption) ?_
        try simp only [Act.put, List.getElem_toArray, List.getElem_cons_succ, List.getElem_cons_zero, List.setIfInBounds_toArray, List.set_cons_zero, List.set_cons_succ]
        refine wpAnyH_take (i := 1) (v := .agg (garr (mv G))) rfl (by kernel_rfl) (by kernel_rfl) (by kernel_rfl) (fun _ _ _ h => h) (Or.inl ⟨by kernel_rfl, fun w hSw => run_load_gr hSw.2.1 rtR rfl rfl⟩) (by assumption) ?_
        try simp only [Act.put, List.getElem_toArray, List.getElem_cons_succ, List.getElem_cons_zero, List.setIfInBounds_toArray, List.set_cons_zero, List.set_cons_succ]
        refine wpAnyH_take (i := 2) (v := ?_) rfl (by kernel_rfl) (by kernel_rfl) (by kernel_rfl) (fun _ _ _ h => h) (Or.inl ⟨by kernel_rfl, ?_⟩) (by assumption) ?_
        rotate_left
        · (intro w hSw; (try dsimp only at hSw); go_simp); (try with_reducible rfl)
        try simp only [Act.put, List.getElem_toArray, List.getElem_cons_succ, List.getElem_cons_zero, List.setIfInBounds_toArray, List.set_cons_zero, List.set_cons_succ]
        refine wpAnyH_take (i := 3) (v := ?_) rfl (by kernel_rfl) (by kernel_rfl) (by kernel_rfl) (fun _ _ _ h => h) (Or.inl ⟨by kernel_rfl, ?_⟩) (by assumption) ?_
        rotate_left
        · (intro w hSw; (try dsimp only at hSw); go_simp); (try with_reducible rfl)
        try simp only [Act.put, List.getElem_toArray, List.getElem_cons_succ, List.getElem_cons_zero, List.setIfInBounds_toArray, List.set_cons_zero, List.set_cons_succ]
        refine wpAnyH_take (i := 4) (v := ?_) rfl (by kernel_rfl) (by kernel_rfl) (by kernel_rfl) (fun _ _ _ h => h) (Or.inl ⟨by kernel_rfl, ?_⟩) (by assumption) ?_
        rotate_left
        · (intro w hSw; (try dsimp only at hSw); go_simp); (try with_reducible rfl)
        try simp only [Act.put, List.getElem_toArray, List.getElem_cons_succ, List.getElem_cons_zero, List.setIfInBounds_toArray, List.set_cons_zero, List.set_cons_succ]
        refine wpAnyH_take (i := 5) (v := ?_) rfl (by kernel_rfl) (by kernel_rfl) (by kernel_rfl) (fun _ _ _ h => h) (Or.inl ⟨by kernel_rfl, ?_⟩) (by assumption) ?_
        rotate_left
        · (intro w hSw; (try dsimp only at hSw); go_simp); (try with_reducible rfl)
        try simp only [Act.put, List.getElem_toArray, List.getElem_cons_succ, List.getElem_cons_zero, List.setIfInBounds_toArray, List.set_cons_zero, List.set_cons_succ]
        refine wpAnyH_take (i := 6) (v := ?_) rfl (by kernel_rfl) (by kernel_rfl) (by kernel_rfl) (fun _ _ _ h => h) (Or.inl ⟨by kernel_rfl, ?_⟩) (by assumption) ?_
        rotate_left
        · (intro w hSw; (try dsimp only at hSw); go_simp); (try with_reducible rfl)
        try simp only [Act.put, List.getElem_toArray, List.getElem_cons_succ, List.getElem_cons_zero, List.setIfInBounds_toArray, List.set_cons_zero, List.set_cons_succ]
        refine wpAnyH_take (i := 7) (v := ?_) rfl (by kernel_rfl) (by kernel_rfl) (by kernel_rfl) (fun _ _ _ h => h) (Or.inl ⟨by kernel_rfl, ?_⟩) (by assumption) ?_
        rotate_left
        · (intro w hSw; (try dsimp only at hSw); go_simp); (try with_reducible rfl)
        try simp only [Act.put, List.getElem_toArray, List.getElem_cons_succ, List.getElem_cons_zero, List.setIfInBounds_toArray, List.set_cons_zero, List.set_cons_succ]
        refine wpAnyH_take (i := 8) (v := ?_) rfl (by kernel_rfl) (by kernel_rfl) (by kernel_rfl) (fun _ _ _ h => h) (Or.inl ⟨by kernel_rfl, ?_⟩) (by assumption) ?_
        rotate_left
        · (intro w hSw; (try dsimp only at hSw); go_simp); (try with_reducible rfl)
        try simp only [Act.put, List.getElem_toArray, List.getElem_cons_succ, List.getElem_cons_zero, List.setIfInBounds_toArray, List.set_cons_zero, List.set_cons_succ]
        refine wpAnyH_take (i := 9) (v := .agg (garr (mv f))) rfl (by kernel_rfl) (by kernel_rfl) (by kernel_rfl) (fun _ _ _ h => h) (Or.inl ⟨by kernel_rfl, fun w hSw => run_load_gr hSw.2.2.1 rtM rfl rfl⟩) (by assumption) ?_
        try simp only [Act.put, List.getElem_toArray, List.getElem_cons_succ, List.getElem_cons_zero, List.setIfInBounds_toArray, List.set_cons_zero, List.set_cons_succ]
        refine wpAnyH_take (i := 10) (v := ?_) rfl (by kernel_rfl) (by kernel_rfl) (by kernel_rfl) (fun _ _ _ h => h) (Or.inl ⟨by kernel_rfl, ?_⟩) (by assumption) ?_
        rotate_left
        · (intro w hSw; (try dsimp only at hSw); go_simp); (try with_reducible rfl)
        try simp only [Act.put, List.getElem_toArray, List.getElem_cons_succ, List.getElem_cons_zero, List.setIfInBounds_toArray, List.set_cons_zero, List.set_cons_succ]
        refine wpAnyH_take (i := 12) (v := .agg (garr (mv f))) rfl (by kernel_rfl) (by kernel_rfl) (by kernel_rfl) (fun _ _ _ h => h) (Or.inl ⟨by kernel_rfl, fun w hSw => run_load_gr hSw.2.2.1 rtM rfl rfl⟩) (by assumption) ?_
        try simp only [Act.put, List.getElem_toArray, List.getElem_cons_succ, List.getElem_cons_zero, List.setIfInBounds_toArray, List.set_cons_zero, List.set_cons_succ]
        refine wpAnyH_take (i := 13) (v := ?_) rfl (by kernel_rfl) (by kernel_rfl) (by kernel_rfl) (fun _ _ _ h => h) (Or.inl ⟨by kernel_rfl, ?_⟩) (by assumption) ?_
        rotate_left
        · (intro w hSw; (try dsimp only at hSw); go_simp); (try with_reducible rfl)
        try simp only [Act.put, List.getElem_toArray, List.getElem_cons_succ, List.getElem_cons_zero, List.setIfInBounds_toArray, List.set_cons_zero, List.set_cons_succ]
        refine wpAnyH_ready (rs := [11]) (by kernel_rfl) (by simp) ?_
        refine AllReadyH.cons rfl (fun K hK => ?_) ?_
        rotate_left
        · exact AllReadyH.nil
        go_simp
        obtain ⟨g1, g2, g3, hb⟩ := hHeld
        refine (HA1.out _).mono ?_
        rintro e wN ⟨rfl, hBN⟩
        have hh := And.intro (g1.beside hBN) (And.intro (g2.beside hBN) (And.intro (g3.beside hBN) (hb.trans (hBN.mono hb.size))))
        clear g1 g2 g3 hb hBN
        refine hK.out _ _ ?_ (fun hHeld => ?_)
        · (try dsimp only); first | exact hh | exact ⟨hh.1.drew, hh.2.1.drew, hh.2.2.1.drew, hh.2.2.2.drew⟩
        clear hK K
        try simp only [Act.put, List.getElem_toArray, List.getElem_cons_succ, List.getElem_cons_zero, List.setIfInBounds_toArray, List.set_cons_zero, List.set_cons_succ]
        clear hh
        refine wpAnyH_ready (rs := [14]) (by kernel_rfl) (by simp) ?_
        refine AllReadyH.cons rfl (fun K hK => ?_) ?_
        rotate_left
        · exact AllReadyH.nil
        go_simp
        obtain ⟨g1, g2, g3, hb⟩ := hHeld
        refine (HA2.out _).mono ?_
        rintro e wN ⟨rfl, hBN⟩
        have hh := And.intro (g1.beside hBN) (And.intro (g2.beside hBN) (And.intro (g3.beside hBN) (hb.trans (hBN.mono hb.size))))
        clear g1 g2 g3 hb hBN
        refine hK.out _ _ ?_ (fun hHeld => ?_)
        · (try dsimp only); first | exact hh | exact ⟨hh.1.drew, hh.2.1.drew, hh.2.2.1.drew, hh.2.2.2.drew⟩
        clear hK K
        try simp only [Act.put, List.getElem_toArray, List.getElem_cons_succ, List.getElem_cons_zero, List.setIfInBounds_toArray, List.set_cons_zero, List.set_cons_succ]
        clear hh
        refine wpAnyH_take (i := 15) (v := ?_) rfl (by kernel_rfl) (by kernel_rfl) (by kernel_rfl) (fun _ _ _ h => h) (Or.inl ⟨by kernel_rfl, ?_⟩) (by assumption) ?_
        rotate_left
        · (intro w hSw; (try dsimp only at hSw); go_simp); (try with_reducible rfl)
        try simp only [Act.put, List.getElem_toArray, List.getElem_cons_succ, List.getElem_cons_zero, List.setIfInBounds_toArray, List.set_cons_zero, List.set_cons_succ]
        refine wpAnyH_take (i := 16) (v := ?_) rfl (by kernel_rfl) (by kernel_rfl) (by kernel_rfl) (fun _ _ _ h => h) (Or.inl ⟨by kernel_rfl, ?_⟩) (by assumption) ?_
        rotate_left
        · (intro w hSw; (try dsimp only at hSw); go_simp); (try with_reducible rfl)
        try simp only [Act.put, List.getElem_toArray, List.getElem_cons_succ, List.getElem_cons_zero, List.setIfInBounds_toArray, List.set_cons_zero, List.set_cons_succ]
        refine wpAnyH_take (i := 17) (v := ?_) rfl (by kernel_rfl) (by kernel_rfl) (by kernel_rfl) (fun _ _ _ h => h) (Or.inl ⟨by kernel_rfl, ?_⟩) (by assumption) ?_
        rotate_left
        · (intro w hSw; (try dsimp only at hSw); go_simp); (try with_reducible rfl)
        try simp only [Act.put, List.getElem_toArray, List.getElem_cons_succ, List.getElem_cons_zero, List.setIfInBounds_toArray, List.set_cons_zero, List.set_cons_succ]
        refine wpAnyH_ready (rs := [18]) (by kernel_rfl) (by simp) ?_
        refine AllReadyH.cons rfl (fun K hK => ?_) ?_
        rotate_left
        · exact AllReadyH.nil
        go_simp
        obtain ⟨g1, g2, g3, hb⟩ := hHeld
        refine (HA3.out _).mono ?_
        rintro e wN ⟨rfl, hBN⟩
        have hh := And.intro (g1.beside hBN) (And.intro (g2.beside hBN) (And.intro (g3.beside hBN) (hb.trans (hBN.mono hb.size))))
        clear g1 g2 g3 hb hBN
        refine hK.out _ _ ?_ (fun hHeld => ?_)
        · (try dsimp only); first | exact hh | exact ⟨hh.1.drew, hh.2.1.drew, hh.2.2.1.drew, hh.2.2.2.drew⟩
        clear hK K
        try simp only [Act.put, List.getElem_toArray, List.getElem_cons_succ, List.getElem_cons_zero, List.setIfInBounds_toArray, List.set_cons_zero, List.set_cons_succ]
        clear hh
        refine wpAnyH_ready (rs := [19]) (by kernel_rfl) (by simp) ?_
        refine AllReadyH.cons rfl (fun K hK => ?_) ?_
        rotate_left
        · exact AllReadyH.nil
        go_simp
        obtain ⟨g1, g2, g3, hb⟩ := hHeld
        refine (HA4.out _).mono ?_
        rintro e wN ⟨rfl, hBN⟩
        have hh := And.intro (g1.beside hBN) (And.intro (g2.beside hBN) (And.intro (g3.beside hBN) (hb.trans (hBN.mono hb.size))))
        clear g1 g2 g3 hb hBN
        refine hK.out _ _ ?_ (fun hHeld => ?_)
        · (try dsimp only); first | exact hh | exact ⟨hh.1.drew, hh.2.1.drew, hh.2.2.1.drew, hh.2.2.2.drew⟩
        clear hK K
        try simp only [Act.put, List.getElem_toArray, List.getElem_cons_succ, List.getElem_cons_zero, List.setIfInBounds_toArray, List.set_cons_zero, List.set_cons_succ]
        clear hh
        refine wpAnyH_take (i := 20) (v := ?_) rfl (by kernel_rfl) (by kernel_rfl) (by kernel_rfl) (fun _ _ _ h => h) (Or.inl ⟨by kernel_rfl, ?_⟩) (by assumption) ?_
        rotate_left
        · (intro w hSw; (try dsimp only at hSw); go_simp); (try with_reducible rfl)
        try simp only [Act.put, List.getElem_toArray, List.getElem_cons_succ, List.getElem_cons_zero, List.setIfInBounds_toArray, List.set_cons_zero, List.set_cons_succ]
        refine wpAnyH_take (i := 21) (v := ?_) rfl (by kernel_rfl) (by kernel_rfl) (by kernel_rfl) (fun _ _ _ h => h) (Or.inl ⟨by kernel_rfl, ?_⟩) (by assumption) ?_
        rotate_left
        · (intro w hSw; (try dsimp only at hSw); go_simp); (try with_reducible rfl)
        try simp only [Act.put, List.getElem_toArray, List.getElem_cons_succ, List.getElem_cons_zero, List.setIfInBounds_toArray, List.set_cons_zero, List.set_cons_succ]
        refine wpAnyH_take (i := 22) (v := ?_) rfl (by kernel_rfl) (by kernel_rfl) (by kernel_rfl) (fun _ _ _ h => h) (Or.inl ⟨by kernel_rfl, ?_⟩) (by assumption) ?_
        rotate_left
        · (intro w hSw; (try dsimp only at hSw); go_simp); (try with_reducible rfl)
        try simp only [Act.put, List.getElem_toArray, List.getElem_cons_succ, List.getElem_cons_zero, List.setIfInBounds_toArray, List.set_cons_zero, List.set_cons_succ]
        refine wpAnyH_done (by kernel_rfl) ?_ _
        refine NoPanic.normal ?_
        go_wp2
        go_ret
        exact ⟨rfl, hHeld.2.2.2⟩

end Go.Proofs.YthnadcmejaciaaaDoor
