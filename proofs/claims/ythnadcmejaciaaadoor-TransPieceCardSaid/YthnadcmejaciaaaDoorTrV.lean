/- TransInverse: the walk. -/
import Derived.Test.YthnadcmejaciaaaDoorTrU
import Derived.Deep.RegionHeld3
namespace Go.Proofs.YthnadcmejaciaaaDoor
open Go.RowKit
set_option linter.unusedVariables false
set_option linter.unusedSimpArgs false

theorem run_load_gr {T : TypeId} {W : World} {b : Nat} {g : Nat → Value} {o : Oper} {ev : Operand → Value} {x : Operand} (h : GR T W b g) (t : RT T) (ho : o.op = .load T x) (hx : ev x = .pointer (some ⟨b, 0, none⟩)) :
    (execOp ev o).run Tryd.prog W = .ok (.value (.agg (garr g))) W := by
  unfold execOp
  simp only [ho, hx, h.loadAt t, Sem.run_bind, Sem.run_pure, Result.andThen_ok]
theorem rtB : RT 45 := ⟨⟨_, Tryd.underlying45⟩, (zero_of_info infoB).2⟩
theorem inF_all (fr : List UInt8) (c : UInt8) : inF fr fr.length c.toNat = decide (c ∈ fr) := by
  unfold inF
  rw [List.take_length, UInt8.ofNat_toNat, Bool.eq_iff_iff]
  simp
theorem ba_map (S : ByteArray) (l : List UInt8) (h : S.data.toList = l) (f : UInt8 → UInt8) (hf : ∀ b, f b = b) : (⟨(l.map f).toArray⟩ : ByteArray) = S := by
  have : l.map f = l := by
    conv => rhs; rw [← List.map_id l]
    exact List.map_congr_left (fun b _ => hf b)
  rw [this]
  exact ba_of S l h

set_option maxRecDepth 100000 in
set_option maxHeartbeats 20000000 in
theorem inverseW (A C S : ByteArray) (ha : A.size ≤ reachBytes) (hc : C.size ≤ reachBytes) (hs : S.size ≤ reachBytes) (w : World) (hm : MaxL w) :
    Calls Tryd.prog 7 #[.string A, .string C, .string S] w fun e w' => e = .returned (.bool true) ∧ Below w.heap.size w w' := by
  obtain ⟨hz, hsz⟩ := zero_of_info (P := Tryd.prog) infoM
  obtain ⟨hzb, hszb⟩ := zero_of_info (P := Tryd.prog) infoB
  have HS := Lib.hid (fun w hm => shown_c w hm)
  have HM := Lib.hid hm
  have hrb : reachBytes = 140737488351232 := by decide
  rw [hrb] at hs ha hc
  clear hm hrb
  by_cases hbig : 300 < A.size
  · have t1 : (300 : Int) < (A.size : Int) := by omega
    clear hbig
    go_enter Tryd.func7, Tryd.ntmps7
    go_wp2_with fail
    refine (HS.out _ HM.out).mono ?_
    rintro e w1 ⟨rfl, hB1⟩
    have HB := Lib.hid hB1
    clear hB1
    go_wp2
    go_ret
    exact ⟨rfl, HB.out⟩
  · have t1 : ¬ (300 : Int) < (A.size : Int) := by omega
    by_cases hbig2 : 300 < S.size
    · have t2 : (300 : Int) < (S.size : Int) := by omega
      clear hbig hbig2
      go_enter Tryd.func7, Tryd.ntmps7
      go_wp2_with fail
      refine (HS.out _ HM.out).mono ?_
      rintro e w1 ⟨rfl, hB1⟩
      have HB := Lib.hid hB1
      clear hB1
      go_wp2
      go_ret
      exact ⟨rfl, HB.out⟩
    · have t2 : ¬ (300 : Int) < (S.size : Int) := by omega
      obtain ⟨fr, hfr⟩ : ∃ l, l = A.data.toList := ⟨_, rfl⟩
      obtain ⟨tg, hto⟩ : ∃ l, l = C.data.toList := ⟨_, rfl⟩
      obtain ⟨l, hl⟩ : ∃ l, l = S.data.toList := ⟨_, rfl⟩
      have hfl : fr.length = A.size := by rw [hfr]; simp
      have htl : tg.length = C.size := by rw [hto]; simp
      have M1 := fun w => make_c A C (fun h => by omega) w
      have M2 := fun w => make_c C A (fun h => by omega) w
      rw [← hfr, ← hto] at M1 M2
      have HFR := Lib.hid hfr
      have HTO := Lib.hid hto
      have HFL := Lib.hid hfl
      have HTL := Lib.hid htl
      by_cases hok1 : mkOk fr tg = true
      · have HOK1 := Lib.hid hok1
        obtain ⟨F, hF⟩ : ∃ F, F = mkF fr tg fr.length := ⟨_, rfl⟩
        have e1 : mkV fr tg = .tuple #[.agg (garr (mv F)), .int .i64 0] := by unfold mkV; rw [if_pos hok1, hF]
        rw [e1] at M1
        have H1 := Lib.hid M1
        have HF := Lib.hid hF
        by_cases hok2 : mkOk tg fr = true
        · have HOK2 := Lib.hid hok2
          obtain ⟨G, hG⟩ : ∃ G, G = mkF tg fr tg.length := ⟨_, rfl⟩
          have e2 : mkV tg fr = .tuple #[.agg (garr (mv G)), .int .i64 0] := by unfold mkV; rw [if_pos hok2, hG]
          rw [e2] at M2
          have H2 := Lib.hid M2
          have HG := Lib.hid hG
          have hACl : A.size = C.size := by have := (mkOk_iff.1 hok1).1; omega
          have hCb : C.size ≤ 300 := by omega
          have A1 := fun w => apply_c F S (by omega) w
          rw [← hl] at A1
          obtain ⟨X, hX⟩ : ∃ X : ByteArray, X = ⟨(l.map fun b => F b.toNat).toArray⟩ := ⟨_, rfl⟩
          have hXd : X.data.toList = l.map fun b => F b.toNat := by rw [hX]
          have hXs : X.size = S.size := by rw [hX, ba_size, List.length_map, hl]; simp
          rw [← hX] at A1
          have A2 := fun w => apply_c G X (by omega) w
          rw [hXd, List.map_map] at A2
          have HA1 := Lib.hid A1
          have HA2' := Lib.hid A2
          have HL := Lib.hid hl
          have HAC := Lib.hid hACl
          clear hbig hbig2 hfr hto hl hfl htl hok1 hok2 hF hG e1 e2 M1 M2 A1 A2 hX hXd hXs hACl
          go_enter Tryd.func7, Tryd.ntmps7
          go_wp2_with fail
          refine (HS.out _ HM.out).mono ?_
          rintro e w1 ⟨rfl, hB1⟩
          have HB1 := Lib.hid hB1
          clear hB1
          go_wp2_with fail
          refine (H1.out _).mono ?_
          rintro e w2 ⟨rfl, hB2⟩
          have hst := store_new w2 rtM (mv F) u8z (one_mv F)
          have hb2 := (HB1.out.trans (hB2.mono HB1.out.size)).alloc (HB1.out.trans (hB2.mono HB1.out.size)).size (.cells (garr (mv F)) 23)
          have HX2 := Lib.hid (And.intro hb2 (GR.new 23 w2 (mv F)))
          clear hB2 hb2
          go_wp2_with fail
          clear hst
          refine (H2.out _).mono ?_
          rintro e w3 ⟨rfl, hB3⟩
          have hst := store_new w3 rtM (mv G) u8z (one_mv G)
          have hb3 := HX2.out.1.trans (hB3.mono HX2.out.1.size)
          have hg3 := HX2.out.2.beside hB3
          have h23 : w2.heap.size < w3.heap.size := by have := hB3.size; rw [World.size_alloc] at this; omega
          have hb4 := hb3.alloc hb3.size (.cells (garr (mv G)) 23)
          have hst2 := store_new (w3.alloc (.cells (garr (mv G)) 23)) rtB bz bz one_bz
          rw [World.size_alloc] at hst2
          have hb5 := hb4.alloc hb4.size (.cells (garr bz) 45)
          have hgb := GR.new 45 (w3.alloc (.cells (garr (mv G)) 23)) bz
          rw [World.size_alloc] at hgb
          have HX3 := Lib.hid (And.intro hb5 (And.intro ((hg3.alloc (.cells (garr (mv G)) 23)).alloc (.cells (garr bz) 45)) (And.intro ((GR.new 23 w3 (mv G)).alloc (.cells (garr bz) 45)) hgb)))
          have lw2 : w.heap.size ≤ w3.heap.size := hb3.size
          clear hB3 hb3 hg3 hb4 hb5 hgb HX2
          go_wp2
          clear hst hst2
          go_loopw [12] (fun i wr => ∃ k : Nat, k ≤ A.size ∧ i = .int .i64 k ∧ GR 23 wr w2.heap.size (mv F) ∧ GR 23 wr w3.heap.size (mv G) ∧ GR 45 wr (w3.heap.size + 1) (bv (inF fr k)) ∧ Below w.heap.size w wr) (fun i _ => A.size - (RowKit.intOf i).toNat)
          case atStart => exact ⟨0, by omega, rfl, HX3.out.2.1, HX3.out.2.2.1, HX3.out.2.2.2.congr fun i _ => by simp [bz, bv, inF_zero], HX3.out.1⟩
          case round =>
            obtain ⟨k, hk, rfl, q1, q2, q3, hB⟩ := hrel
            by_cases hlt : k < A.size
            · have hkf : k < fr.length := by have := HFL.out; omega
              have e1 := ba_get A fr HFR.out.symm k hlt hkf
              have hcl := (A[k]).toNat_lt
              have f2 := q3.fz A[k].toNat
              have c2 := q3.cell A[k].toNat hcl
              have E1 := Lib.hid e1
              clear e1
              go_wp2
              go_roundw
              case rel =>
                refine ⟨k + 1, by omega, by simp, q1.other (by simp; omega) _, q2.other (by simp) _, ?_, hB.setCell (p := ⟨w3.heap.size + 1, A[k].toNat, none⟩) (by simp; omega) _⟩
                refine (q3.set _ _).congr fun i hi => ?_
                simp only [bv]
                rw [inF_succ fr k hkf i hi, ← E1.out]
                split <;> rfl
              case measure => (simp [RowKit.intOf]) <;> omega
            · obtain rfl : k = A.size := by omega
              have hlt1 : ((A.size : Int) < A.size) = False := by simp
              have HQ := Lib.hid (And.intro q1 (And.intro q2 (And.intro q3 hB)))
              clear q1 q2 q3 hB
              go_wp2
              go_loop [13] (fun i => ∃ k : Nat, k ≤ C.size ∧ i = .int .i64 k ∧ (∀ j, j < k → tg.getD j 0 ∈ fr)) (fun i => C.size - (RowKit.intOf i).toNat)
              case atStart => exact ⟨0, by omega, rfl, fun j hj => absurd hj (by omega)⟩
              case round =>
                obtain ⟨k, hk, rfl, hall⟩ := hrel
                have HALL := Lib.hid hall
                clear hall
                by_cases hlt : k < C.size
                · have hkt : k < tg.length := by have := HTL.out; omega
                  have e1 := ba_get C tg HTO.out.symm k hlt hkt
                  have hcl := (C[k]).toNat_lt
                  have c2 := HQ.out.2.2.1.cell C[k].toNat hcl
                  simp only [bv] at c2
                  rw [← HFL.out, inF_all] at c2
                  have E1 := Lib.hid e1
                  clear e1
                  by_cases hin : C[k] ∈ fr
                  · rw [decide_eq_true hin] at c2
                    have HIN := Lib.hid hin
                    clear hin
                    go_wp2
                    go_round
                    case rel =>
                      refine ⟨k + 1, by omega, by simp, fun j hj => ?_⟩
                      rcases (by omega : j < k ∨ j = k) with h | rfl
                      · exact HALL.out j h
                      · have := HIN.out
                        rw [E1.out] at this
                        simpa [List.getD, List.getElem?_eq_getElem hkt] using this
                    case measure => (simp [RowKit.intOf]) <;> omega
                  · rw [decide_eq_false hin] at c2
                    clear hin
                    go_wp2
                    go_ret
                    exact ⟨rfl, HQ.out.2.2.2⟩
                · obtain rfl : k = C.size := by omega
                  have hlt1 : ((C.size : Int) < C.size) = False := by simp
                  have hinv : ∀ b : UInt8, G (F b.toNat).toNat = b := fun b => by
                    rw [HF.out, HG.out]
                    exact inverse_of HOK1.out HOK2.out (fun i hi => HALL.out i (by have := HTL.out; omega)) b
                  have hfin := ba_map S l HL.out.symm ((fun b : UInt8 => G b.toNat) ∘ fun b : UInt8 => F b.toNat) (fun b => hinv b)
                  have HA2 := HA2'
                  rw [hfin] at HA2
                  have hg1 := HQ.out.1
                  have hg2 := HQ.out.2.1
                  have hbb := HQ.out.2.2.2
                  obtain ⟨B1, hB1d⟩ : ∃ B1, B1 = w2.heap.size := ⟨_, rfl⟩
                  obtain ⟨B2, hB2d⟩ : ∃ B2, B2 = w3.heap.size := ⟨_, rfl⟩
                  rw [← hB1d] at hg1
                  rw [← hB2d] at hg2
                  simp only [← hB1d, ← hB2d]
                  clear hfin hinv HA2' hB1d hB2d
                  go_wp2_with fail
                  refine wp_region_noPanic ?_
                  refine wp_region_held_drew (S := fun w' => GR 23 w' B1 (mv F) ∧ GR 23 w' B2 (mv G) ∧ Below w.heap.size w w') (by kernel_rfl) ?_ (fun hHeld => ?_)
                  · (try dsimp only); exact ⟨hg1.drew, hg2.drew, hbb.drew⟩
                  refine wpAnyH_take (i := 0) (v := .agg (garr (mv G))) rfl (by kernel_rfl) (by kernel_rfl) (by kernel_rfl) (fun _ _ _ h => h) (Or.inl ⟨by kernel_rfl, fun w hSw => run_load_gr hSw.2.1 rtM rfl rfl⟩) (by assumption) ?_
                  try simp only [Act.put, List.getElem_toArray, List.getElem_cons_succ, List.getElem_cons_zero, List.setIfInBounds_toArray, List.set_cons_zero, List.set_cons_succ]
                  refine wpAnyH_take (i := 1) (v := .agg (garr (mv F))) rfl (by kernel_rfl) (by kernel_rfl) (by kernel_rfl) (fun _ _ _ h => h) (Or.inl ⟨by kernel_rfl, fun w hSw => run_load_gr hSw.1 rtM rfl rfl⟩) (by assumption) ?_
                  try simp only [Act.put, List.getElem_toArray, List.getElem_cons_succ, List.getElem_cons_zero, List.setIfInBounds_toArray, List.set_cons_zero, List.set_cons_succ]
                  refine wpAnyH_take (i := 2) (v := ?_) rfl (by kernel_rfl) (by kernel_rfl) (by kernel_rfl) (fun _ _ _ h => h) (Or.inl ⟨by kernel_rfl, ?_⟩) (by assumption) ?_
                  rotate_left
                  · (intro w hSw; (try dsimp only at hSw); go_simp); (try with_reducible rfl)
                  try simp only [Act.put, List.getElem_toArray, List.getElem_cons_succ, List.getElem_cons_zero, List.setIfInBounds_toArray, List.set_cons_zero, List.set_cons_succ]
                  refine wpAnyH_take (i := 5) (v := ?_) rfl (by kernel_rfl) (by kernel_rfl) (by kernel_rfl) (fun _ _ _ h => h) (Or.inl ⟨by kernel_rfl, ?_⟩) (by assumption) ?_
                  rotate_left
                  · (intro w hSw; (try dsimp only at hSw); go_simp); (try with_reducible rfl)
                  try simp only [Act.put, List.getElem_toArray, List.getElem_cons_succ, List.getElem_cons_zero, List.setIfInBounds_toArray, List.set_cons_zero, List.set_cons_succ]
                  refine wpAnyH_ready (rs := [3]) (by kernel_rfl) (by simp) ?_
                  refine AllReadyH.cons rfl (fun K hK => ?_) ?_
                  rotate_left
                  · exact AllReadyH.nil
                  go_simp
                  obtain ⟨g1, g2, hb⟩ := hHeld
                  refine (HA1.out _).mono ?_
                  rintro e wN ⟨rfl, hBN⟩
                  have hh := And.intro (g1.beside hBN) (And.intro (g2.beside hBN) (hb.trans (hBN.mono hb.size)))
                  clear g1 g2 hb hBN
                  refine hK.out _ _ ?_ (fun hHeld => ?_)
                  · (try dsimp only); first | exact hh | exact ⟨hh.1.drew, hh.2.1.drew, hh.2.2.drew⟩
                  clear hK K
                  try simp only [Act.put, List.getElem_toArray, List.getElem_cons_succ, List.getElem_cons_zero, List.setIfInBounds_toArray, List.set_cons_zero, List.set_cons_succ]
                  clear hh
                  refine wpAnyH_ready (rs := [4]) (by kernel_rfl) (by simp) ?_
                  refine AllReadyH.cons rfl (fun K hK => ?_) ?_
                  rotate_left
                  · exact AllReadyH.nil
                  go_simp
                  obtain ⟨g1, g2, hb⟩ := hHeld
                  refine (HA2.out _).mono ?_
                  rintro e wN ⟨rfl, hBN⟩
                  have hh := And.intro (g1.beside hBN) (And.intro (g2.beside hBN) (hb.trans (hBN.mono hb.size)))
                  clear g1 g2 hb hBN
                  refine hK.out _ _ ?_ (fun hHeld => ?_)
                  · (try dsimp only); first | exact hh | exact ⟨hh.1.drew, hh.2.1.drew, hh.2.2.drew⟩
                  clear hK K
                  try simp only [Act.put, List.getElem_toArray, List.getElem_cons_succ, List.getElem_cons_zero, List.setIfInBounds_toArray, List.set_cons_zero, List.set_cons_succ]
                  clear hh
                  refine wpAnyH_take (i := 6) (v := ?_) rfl (by kernel_rfl) (by kernel_rfl) (by kernel_rfl) (fun _ _ _ h => h) (Or.inl ⟨by kernel_rfl, ?_⟩) (by assumption) ?_
                  rotate_left
                  · (intro w hSw; (try dsimp only at hSw); go_simp); (try with_reducible rfl)
                  try simp only [Act.put, List.getElem_toArray, List.getElem_cons_succ, List.getElem_cons_zero, List.setIfInBounds_toArray, List.set_cons_zero, List.set_cons_succ]
                  refine wpAnyH_take (i := 7) (v := ?_) rfl (by kernel_rfl) (by kernel_rfl) (by kernel_rfl) (fun _ _ _ h => h) (Or.inl ⟨by kernel_rfl, ?_⟩) (by assumption) ?_
                  rotate_left
                  · (intro w hSw; (try dsimp only at hSw); go_simp); (try with_reducible rfl)
                  try simp only [Act.put, List.getElem_toArray, List.getElem_cons_succ, List.getElem_cons_zero, List.setIfInBounds_toArray, List.set_cons_zero, List.set_cons_succ]
                  refine wpAnyH_done (by kernel_rfl) ?_ _
                  refine NoPanic.normal ?_
                  go_wp2
                  go_ret
                  exact ⟨rfl, hHeld.2.2⟩
        · have e2 : mkV tg fr = .tuple #[.agg (garr u8z), .int .i64 100] := by unfold mkV; rw [if_neg hok2]
          rw [e2] at M2
          have H2 := Lib.hid M2
          clear hbig hbig2 hfr hto hl hfl htl hok1 hok2 hF e1 e2 M1 M2
          go_enter Tryd.func7, Tryd.ntmps7
          go_wp2_with fail
          refine (HS.out _ HM.out).mono ?_
          rintro e w1 ⟨rfl, hB1⟩
          have HB1 := Lib.hid hB1
          clear hB1
          go_wp2_with fail
          refine (H1.out _).mono ?_
          rintro e w2 ⟨rfl, hB2⟩
          have hst := store_new w2 rtM (mv F) u8z (one_mv F)
          have hb2 := (HB1.out.trans (hB2.mono HB1.out.size)).alloc (HB1.out.trans (hB2.mono HB1.out.size)).size (.cells (garr (mv F)) 23)
          have HX2 := Lib.hid hb2
          clear hB2 hb2
          go_wp2_with fail
          clear hst
          refine (H2.out _).mono ?_
          rintro e w3 ⟨rfl, hB3⟩
          have hst := store_new w3 rtM u8z u8z one_z
          have hb3 := HX2.out.trans (hB3.mono HX2.out.size)
          have HX3 := Lib.hid (hb3.alloc hb3.size (.cells (garr u8z) 23))
          clear hB3 hb3
          go_wp2
          go_ret
          exact ⟨rfl, HX3.out⟩
      · have e1 : mkV fr tg = .tuple #[.agg (garr u8z), .int .i64 100] := by unfold mkV; rw [if_neg hok1]
        rw [e1] at M1
        have H1 := Lib.hid M1
        obtain ⟨G, z, hG⟩ : ∃ (G : Nat → UInt8) (z : Int), mkV tg fr = .tuple #[.agg (garr (mv G)), .int .i64 z] := by
          unfold mkV
          split
          · exact ⟨_, _, rfl⟩
          · exact ⟨fun _ => 0, 100, rfl⟩
        rw [hG] at M2
        have H2 := Lib.hid M2
        clear hbig hbig2 hfr hto hl hfl htl hok1 hG e1 M1 M2
        go_enter Tryd.func7, Tryd.ntmps7
        go_wp2_with fail
        refine (HS.out _ HM.out).mono ?_
        rintro e w1 ⟨rfl, hB1⟩
        have HB1 := Lib.hid hB1
        clear hB1
        go_wp2_with fail
        refine (H1.out _).mono ?_
        rintro e w2 ⟨rfl, hB2⟩
        have hst := store_new w2 rtM u8z u8z one_z
        have hb2 := (HB1.out.trans (hB2.mono HB1.out.size)).alloc (HB1.out.trans (hB2.mono HB1.out.size)).size (.cells (garr u8z) 23)
        have HX2 := Lib.hid hb2
        clear hB2 hb2
        go_wp2_with fail
        clear hst
        refine (H2.out _).mono ?_
        rintro e w3 ⟨rfl, hB3⟩
        have hst := store_new w3 rtM (mv G) u8z (one_mv G)
        have hb3 := HX2.out.trans (hB3.mono HX2.out.size)
        have HX3 := Lib.hid (hb3.alloc hb3.size (.cells (garr (mv G)) 23))
        clear hB3 hb3
        go_wp2
        go_ret
        exact ⟨rfl, HX3.out⟩

end Go.Proofs.YthnadcmejaciaaaDoor
