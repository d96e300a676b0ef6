/- SetTells: the walk. -/
import Derived.Test.YtblogejljilcdaaDoorSetZ
import Derived.Test.YtblogejljilcdaaDoorSetI
import Derived.Test.YtblogejljilcdaaDoorSetJ
namespace Go.Proofs.YtblogejljilcdaaDoor
open Go.RowKit
set_option linter.unusedVariables false
set_option linter.unusedSimpArgs false

theorem infoB : ∃ i, Tryd.prog.info? 4 = some i := info_of_underlying Tryd.underlying4
theorem plainB : Tryd.prog.plainKey 4 = true := by kernel_rfl
theorem oneB : Tryd.prog.cellsOf 4 = 1 := by kernel_rfl
theorem eq_row (f : Nat → Bool) (w : World) : (Op.equalIn 10000 34 (.agg (barr f)) (.agg (barr f))).run Tryd.prog w = .ok true w := by
  refine eq_array w _ Tryd.underlying34 plainB oneB infoB (barr_size f) (fun i v hv => ?_)
  have hi : i < 256 := by
    rcases Nat.lt_or_ge i 256 with h | h
    · exact h
    · rw [Array.getElem?_eq_none (by rw [barr_size]; exact h)] at hv; cases hv
  rw [barr_at f i hi] at hv
  cases hv
  rw [show (9999 : Nat) = 9998 + 1 from rfl, run_equalIn_bool w 9998 _ _ _ Tryd.underlying4]
  simp
theorem idx_row (f : Nat → Bool) (a : Nat) (ha : a < 256) (w : World) : (Instr.index 34 (.agg (barr f)) (.int .u8 a)).run Tryd.prog w = .ok (.bool (f a)) w := by
  have h1 : (a : Int) < 256 := by omega
  simp [Instr.index, run_underlying Tryd.underlying34, asIntOf, h1, go_sem, part, barr_at f a ha, barr_size]
  intro h; omega

set_option maxRecDepth 100000 in
set_option maxHeartbeats 40000000 in
theorem tells_go (x y : ByteArray) (hl : ¬ 300 < x.size) (s t fo fr fu fn ff : Nat → Bool) (a b : Nat) (ha : a < 256) (z : Int)
    (k1 : ∀ w, Calls Tryd.prog 19 #[.string x] w fun e w' => e = .returned (.agg #[.int .u64 (wd fo 0), .int .u64 (wd fo 1), .int .u64 (wd fo 2), .int .u64 (wd fo 3)]) ∧ Below w.heap.size w w')
    (k2 : ∀ w, Calls Tryd.prog 18 #[.agg #[.int .u64 (wd fo 0), .int .u64 (wd fo 1), .int .u64 (wd fo 2), .int .u64 (wd fo 3)]] w fun e w' => e = .returned (.agg (barr fo)) ∧ Below w.heap.size w w')
    (k3 : ∀ w, Calls Tryd.prog 20 #[.string x] w fun e w' => e = .returned (.agg (barr fo)) ∧ Below w.heap.size w w')
    (k4 : ∀ w, Calls Tryd.prog 13 #[.agg #[.int .u64 (wd s 0), .int .u64 (wd s 1), .int .u64 (wd s 2), .int .u64 (wd s 3)], .int .u8 a] w fun e w' => e = .returned (.bool (s a)) ∧ Below w.heap.size w w')
    (k5 : ∀ w, Calls Tryd.prog 18 #[.agg #[.int .u64 (wd s 0), .int .u64 (wd s 1), .int .u64 (wd s 2), .int .u64 (wd s 3)]] w fun e w' => e = .returned (.agg (barr s)) ∧ Below w.heap.size w w')
    (k5t : ∀ w, Calls Tryd.prog 18 #[.agg #[.int .u64 (wd t 0), .int .u64 (wd t 1), .int .u64 (wd t 2), .int .u64 (wd t 3)]] w fun e w' => e = .returned (.agg (barr t)) ∧ Below w.heap.size w w')
    (k6 : ∀ w, Calls Tryd.prog 21 #[.int .u8 a, .int .u8 b] w fun e w' => e = .returned (.agg #[.int .u64 (wd fr 0), .int .u64 (wd fr 1), .int .u64 (wd fr 2), .int .u64 (wd fr 3)]) ∧ Below w.heap.size w w')
    (k7 : ∀ w, Calls Tryd.prog 18 #[.agg #[.int .u64 (wd fr 0), .int .u64 (wd fr 1), .int .u64 (wd fr 2), .int .u64 (wd fr 3)]] w fun e w' => e = .returned (.agg (barr fr)) ∧ Below w.heap.size w w')
    (k8 : ∀ w, Calls Tryd.prog 22 #[.int .u8 a, .int .u8 b] w fun e w' => e = .returned (.agg (barr fr)) ∧ Below w.heap.size w w')
    (k10 : ∀ w, Calls Tryd.prog 18 #[.agg #[.int .u64 (wd fu 0), .int .u64 (wd fu 1), .int .u64 (wd fu 2), .int .u64 (wd fu 3)]] w fun e w' => e = .returned (.agg (barr fu)) ∧ Below w.heap.size w w')
    (k11 : ∀ w, Calls Tryd.prog 23 #[.agg (barr s), .agg (barr t)] w fun e w' => e = .returned (.agg (barr fu)) ∧ Below w.heap.size w w')
    (k12 : ∀ w, Calls Tryd.prog 12 #[.agg #[.int .u64 (wd s 0), .int .u64 (wd s 1), .int .u64 (wd s 2), .int .u64 (wd s 3)]] w fun e w' => e = .returned (.agg #[.int .u64 (wd fn 0), .int .u64 (wd fn 1), .int .u64 (wd fn 2), .int .u64 (wd fn 3)]) ∧ Below w.heap.size w w')
    (k13 : ∀ w, Calls Tryd.prog 18 #[.agg #[.int .u64 (wd fn 0), .int .u64 (wd fn 1), .int .u64 (wd fn 2), .int .u64 (wd fn 3)]] w fun e w' => e = .returned (.agg (barr fn)) ∧ Below w.heap.size w w')
    (k14 : ∀ w, Calls Tryd.prog 24 #[.agg (barr s)] w fun e w' => e = .returned (.agg (barr fn)) ∧ Below w.heap.size w w')
    (k15 : ∀ w, Fit w → Calls Tryd.prog 25 #[.agg #[.int .u64 (wd s 0), .int .u64 (wd s 1), .int .u64 (wd s 2), .int .u64 (wd s 3)]] w fun e w' => e = .returned (.agg #[.int .u64 (wd ff 0), .int .u64 (wd ff 1), .int .u64 (wd ff 2), .int .u64 (wd ff 3)]) ∧ Below w.heap.size w w')
    (k16 : ∀ w, Calls Tryd.prog 18 #[.agg #[.int .u64 (wd ff 0), .int .u64 (wd ff 1), .int .u64 (wd ff 2), .int .u64 (wd ff 3)]] w fun e w' => e = .returned (.agg (barr ff)) ∧ Below w.heap.size w w')
    (k17 : ∀ w, Calls Tryd.prog 26 #[.agg (barr s)] w fun e w' => e = .returned (.agg (barr ff)) ∧ Below w.heap.size w w')
    (k18 : ∀ w, Calls Tryd.prog 14 #[.agg #[.int .u64 (wd s 0), .int .u64 (wd s 1), .int .u64 (wd s 2), .int .u64 (wd s 3)]] w fun e w' => e = .returned (.int .i64 z) ∧ Below w.heap.size w w')
    (k19 : ∀ w, Calls Tryd.prog 27 #[.agg (barr s)] w fun e w' => e = .returned (.int .i64 z) ∧ Below w.heap.size w w')
    (k20 : ∀ w, Fit w → Calls Tryd.prog 28 #[.agg #[.int .u64 (wd s 0), .int .u64 (wd s 1), .int .u64 (wd s 2), .int .u64 (wd s 3)]] w fun e w' => e = .returned (.string y) ∧ Below w.heap.size w w')
    (k21 : ∀ w, Calls Tryd.prog 29 #[.agg (barr s)] w fun e w' => e = .returned (.string y) ∧ Below w.heap.size w w')
    (k22 : ∀ w, Calls Tryd.prog 11 #[.slice none 0 0] w fun e w' => e = .returned (.agg #[.int .u64 0, .int .u64 0, .int .u64 0, .int .u64 0]) ∧ Below w.heap.size w w')
    (k9 : ∀ (B cap : Nat) w, w.heap[B]? = some (.cells #[.int .u64 (wd s 0), .int .u64 (wd s 1), .int .u64 (wd s 2), .int .u64 (wd s 3), .int .u64 (wd t 0), .int .u64 (wd t 1), .int .u64 (wd t 2), .int .u64 (wd t 3)] 24 (0, 0)) → Calls Tryd.prog 11 #[.slice (some ⟨B, 0, none⟩) 2 cap] w fun e w' => e = .returned (.agg #[.int .u64 (wd fu 0), .int .u64 (wd fu 1), .int .u64 (wd fu 2), .int .u64 (wd fu 3)]) ∧ Below w.heap.size w w')
    (w : World) (hw : Fit w) :
    Calls Tryd.prog 5 #[.agg #[.int .u64 (wd s 0), .int .u64 (wd s 1), .int .u64 (wd s 2), .int .u64 (wd s 3)], .agg #[.int .u64 (wd t 0), .int .u64 (wd t 1), .int .u64 (wd t 2), .int .u64 (wd t 3)], .string x, .int .u8 a, .int .u8 b] w fun e w' => e = .returned (.bool true) ∧ Below w.heap.size w w' := by
  have hs : x.size < 9223372036854775807 := by omega
  have HX := Lib.hid (fun w hw => shown_c w hw)
  have K1 := Lib.hid k1; have K2 := Lib.hid k2; have K3 := Lib.hid k3; have K4 := Lib.hid k4; have K5 := Lib.hid k5; have K5T := Lib.hid k5t; have K6 := Lib.hid k6; have K7 := Lib.hid k7; have K8 := Lib.hid k8; have K10 := Lib.hid k10; have K11 := Lib.hid k11; have K12 := Lib.hid k12; have K13 := Lib.hid k13; have K14 := Lib.hid k14; have K15 := Lib.hid k15; have K16 := Lib.hid k16; have K17 := Lib.hid k17; have K18 := Lib.hid k18; have K19 := Lib.hid k19; have K20 := Lib.hid k20; have K21 := Lib.hid k21; have K22 := Lib.hid k22; have K9 := Lib.hid k9
  clear k1 k2 k3 k4 k5 k5t k6 k7 k8 k10 k11 k12 k13 k14 k15 k16 k17 k18 k19 k20 k21 k22 k9
  have q1 := eq_row fo; have q2 := eq_row fr; have q3 := eq_row fu; have q4 := eq_row fn; have q5 := eq_row ff; have q6 := idx_row s a ha; have q7 := eq_four (t := 24) Tryd.underlying24 0 0 0 0
  go_enter Tryd.func5, Tryd.ntmps5
  go_wp2_with fail
  have S0 := (Four.new w 24 (.int .u64 (wd s 0)) (.int .u64 (wd s 1)) (.int .u64 (wd s 2)) (.int .u64 (wd s 3))).alloc (.cells #[.int .u64 (wd t 0), .int .u64 (wd t 1), .int .u64 (wd t 2), .int .u64 (wd t 3)] 24)
  have T0 := Four.new (w.alloc (.cells #[.int .u64 (wd s 0), .int .u64 (wd s 1), .int .u64 (wd s 2), .int .u64 (wd s 3)] 24)) 24 (.int .u64 (wd t 0)) (.int .u64 (wd t 1)) (.int .u64 (wd t 2)) (.int .u64 (wd t 3))
  rw [World.size_alloc] at T0
  have f0 := (hw.alloc (.cells #[.int .u64 (wd s 0), .int .u64 (wd s 1), .int .u64 (wd s 2), .int .u64 (wd s 3)] 24)).alloc (.cells #[.int .u64 (wd t 0), .int .u64 (wd t 1), .int .u64 (wd t 2), .int .u64 (wd t 3)] 24)
  have b0 : Below w.heap.size w ((w.alloc (.cells #[.int .u64 (wd s 0), .int .u64 (wd s 1), .int .u64 (wd s 2), .int .u64 (wd s 3)] 24)).alloc (.cells #[.int .u64 (wd t 0), .int .u64 (wd t 1), .int .u64 (wd t 2), .int .u64 (wd t 3)] 24)) := ((Below.refl _ w).alloc (Nat.le_refl _) _).alloc (by simp) _
  refine (HX.out _ f0).mono ?_
  rintro e w1 ⟨rfl, hB⟩
  have S1 := S0.below hB S0.lt; have T1 := T0.below hB T0.lt; have f1 := f0.below hB; have b1 := b0.trans (hB.mono b0.size)
  clear S0 T0 f0 b0 hB
  have S1c0 := S1.c0; have T1c0 := T1.c0; have S1c1 := S1.c1; have T1c1 := T1.c1; have S1c2 := S1.c2; have T1c2 := T1.c2; have S1c3 := S1.c3; have T1c3 := T1.c3
  go_wp2_with fail
  simp only [List.append_eq, List.cons_append, List.nil_append]
  refine wp_region_noPanic ?_
  refine wp_region_held_drew (S := fun w' => (w'.cell? ⟨w.heap.size, 0, none⟩ = some (.int .u64 (wd s 0)) ∧ w'.cell? ⟨w.heap.size, 1, none⟩ = some (.int .u64 (wd s 1)) ∧ w'.cell? ⟨w.heap.size, 2, none⟩ = some (.int .u64 (wd s 2)) ∧ w'.cell? ⟨w.heap.size, 3, none⟩ = some (.int .u64 (wd s 3)) ∧ w'.cell? ⟨(w.heap.size + 1), 0, none⟩ = some (.int .u64 (wd t 0)) ∧ w'.cell? ⟨(w.heap.size + 1), 1, none⟩ = some (.int .u64 (wd t 1)) ∧ w'.cell? ⟨(w.heap.size + 1), 2, none⟩ = some (.int .u64 (wd t 2)) ∧ w'.cell? ⟨(w.heap.size + 1), 3, none⟩ = some (.int .u64 (wd t 3))) ∧ Fit w' ∧ Below w.heap.size w w') (by kernel_rfl) ?_ (fun hHeld => ?_)
  · (try dsimp only); exact ⟨⟨S1c0, S1c1, S1c2, S1c3, T1c0, T1c1, T1c2, T1c3⟩, f1.drew, b1.drew⟩
  refine wpAnyH_take (i := 0) (v := ?_) rfl (by kernel_rfl) (by kernel_rfl) (by kernel_rfl) (fun _ _ _ h => h) (Or.inl ⟨by kernel_rfl, ?_⟩) (by assumption) ?_
  rotate_left
  · (intro w hSw; (try dsimp only at hSw); go_simp); (try with_reducible rfl)
  try simp only [Act.put, List.getElem_toArray, List.getElem_cons_succ, List.getElem_cons_zero, List.setIfInBounds_toArray, List.set_cons_zero, List.set_cons_succ]
  refine wpAnyH_take (i := 3) (v := ?_) rfl (by kernel_rfl) (by kernel_rfl) (by kernel_rfl) (fun _ _ _ h => h) (Or.inl ⟨by kernel_rfl, ?_⟩) (by assumption) ?_
  rotate_left
  · (intro w hSw; (try dsimp only at hSw); go_simp); (try with_reducible rfl)
  try simp only [Act.put, List.getElem_toArray, List.getElem_cons_succ, List.getElem_cons_zero, List.setIfInBounds_toArray, List.set_cons_zero, List.set_cons_succ]
  refine wpAnyH_ready (rs := [1]) (by kernel_rfl) (by simp) ?_
  refine AllReadyH.cons rfl (fun K hK => ?_) ?_
  rotate_left
  · exact AllReadyH.nil
  go_simp
  (have hh := ‹_ ∧ Fit _ ∧ Below _ _ _›; obtain ⟨⟨c0, c1, c2, c3, c4, c5, c6, c7⟩, ft, hb⟩ := hh; refine (K1.out _).mono ?_; rintro e wN ⟨rfl, hBN⟩; have c0 := cell_keep hBN c0; have c1 := cell_keep hBN c1; have c2 := cell_keep hBN c2; have c3 := cell_keep hBN c3; have c4 := cell_keep hBN c4; have c5 := cell_keep hBN c5; have c6 := cell_keep hBN c6; have c7 := cell_keep hBN c7; have ft := ft.below hBN; have hb := hb.trans (hBN.mono hb.size); clear hBN; try simp only [sv])
  refine hK.out _ _ ?_ (fun hHeld => ?_)
  · (try dsimp only); (first | with_reducible assumption | ((repeat' apply And.intro) <;> first | with_reducible assumption | with_reducible exact cell_alloc1 _ (by with_reducible assumption) | exact Fit.drew (by with_reducible assumption) | exact Fit.alloc (by with_reducible assumption) _ | exact Below.drew (by with_reducible assumption) | exact Below.alloc (by with_reducible assumption) (Below.size (by with_reducible assumption)) _ | go_keep))
  clear hK K
  try simp only [Act.put, List.getElem_toArray, List.getElem_cons_succ, List.getElem_cons_zero, List.setIfInBounds_toArray, List.set_cons_zero, List.set_cons_succ]
  refine wpAnyH_ready (rs := [2]) (by kernel_rfl) (by simp) ?_
  refine AllReadyH.cons rfl (fun K hK => ?_) ?_
  rotate_left
  · exact AllReadyH.nil
  go_simp
  (have hh := ‹_ ∧ Fit _ ∧ Below _ _ _›; obtain ⟨⟨c0, c1, c2, c3, c4, c5, c6, c7⟩, ft, hb⟩ := hh; refine (K2.out _).mono ?_; rintro e wN ⟨rfl, hBN⟩; have c0 := cell_keep hBN c0; have c1 := cell_keep hBN c1; have c2 := cell_keep hBN c2; have c3 := cell_keep hBN c3; have c4 := cell_keep hBN c4; have c5 := cell_keep hBN c5; have c6 := cell_keep hBN c6; have c7 := cell_keep hBN c7; have ft := ft.below hBN; have hb := hb.trans (hBN.mono hb.size); clear hBN; try simp only [sv])
  refine hK.out _ _ ?_ (fun hHeld => ?_)
  · (try dsimp only); (first | with_reducible assumption | ((repeat' apply And.intro) <;> first | with_reducible assumption | with_reducible exact cell_alloc1 _ (by with_reducible assumption) | exact Fit.drew (by with_reducible assumption) | exact Fit.alloc (by with_reducible assumption) _ | exact Below.drew (by with_reducible assumption) | exact Below.alloc (by with_reducible assumption) (Below.size (by with_reducible assumption)) _ | go_keep))
  clear hK K
  try simp only [Act.put, List.getElem_toArray, List.getElem_cons_succ, List.getElem_cons_zero, List.setIfInBounds_toArray, List.set_cons_zero, List.set_cons_succ]
  refine wpAnyH_ready (rs := [4]) (by kernel_rfl) (by simp) ?_
  refine AllReadyH.cons rfl (fun K hK => ?_) ?_
  rotate_left
  · exact AllReadyH.nil
  go_simp
  (have hh := ‹_ ∧ Fit _ ∧ Below _ _ _›; obtain ⟨⟨c0, c1, c2, c3, c4, c5, c6, c7⟩, ft, hb⟩ := hh; refine (K3.out _).mono ?_; rintro e wN ⟨rfl, hBN⟩; have c0 := cell_keep hBN c0; have c1 := cell_keep hBN c1; have c2 := cell_keep hBN c2; have c3 := cell_keep hBN c3; have c4 := cell_keep hBN c4; have c5 := cell_keep hBN c5; have c6 := cell_keep hBN c6; have c7 := cell_keep hBN c7; have ft := ft.below hBN; have hb := hb.trans (hBN.mono hb.size); clear hBN; try simp only [sv])
  refine hK.out _ _ ?_ (fun hHeld => ?_)
  · (try dsimp only); (first | with_reducible assumption | ((repeat' apply And.intro) <;> first | with_reducible assumption | with_reducible exact cell_alloc1 _ (by with_reducible assumption) | exact Fit.drew (by with_reducible assumption) | exact Fit.alloc (by with_reducible assumption) _ | exact Below.drew (by with_reducible assumption) | exact Below.alloc (by with_reducible assumption) (Below.size (by with_reducible assumption)) _ | go_keep))
  clear hK K
  try simp only [Act.put, List.getElem_toArray, List.getElem_cons_succ, List.getElem_cons_zero, List.setIfInBounds_toArray, List.set_cons_zero, List.set_cons_succ]
  refine wpAnyH_take (i := 5) (v := ?_) rfl (by kernel_rfl) (by kernel_rfl) (by kernel_rfl) (fun _ _ _ h => h) (Or.inl ⟨by kernel_rfl, ?_⟩) (by assumption) ?_
  rotate_left
  · (intro w hSw; (try dsimp only at hSw); go_simp); (try with_reducible rfl)
  try simp only [Act.put, List.getElem_toArray, List.getElem_cons_succ, List.getElem_cons_zero, List.setIfInBounds_toArray, List.set_cons_zero, List.set_cons_succ]
  refine wpAnyH_take (i := 6) (v := ?_) rfl (by kernel_rfl) (by kernel_rfl) (by kernel_rfl) (fun _ _ _ h => h) (Or.inl ⟨by kernel_rfl, ?_⟩) (by assumption) ?_
  rotate_left
  · (intro w hSw; (try dsimp only at hSw); go_simp); (try with_reducible rfl)
  try simp only [Act.put, List.getElem_toArray, List.getElem_cons_succ, List.getElem_cons_zero, List.setIfInBounds_toArray, List.set_cons_zero, List.set_cons_succ]
  refine wpAnyH_take (i := 7) (v := ?_) rfl (by kernel_rfl) (by kernel_rfl) (by kernel_rfl) (fun _ _ _ h => h) (Or.inl ⟨by kernel_rfl, ?_⟩) (by assumption) ?_
  rotate_left
  · (intro w hSw; (try dsimp only at hSw); go_simp); (try with_reducible rfl)
  try simp only [Act.put, List.getElem_toArray, List.getElem_cons_succ, List.getElem_cons_zero, List.setIfInBounds_toArray, List.set_cons_zero, List.set_cons_succ]
  refine wpAnyH_take (i := 8) (v := ?_) rfl (by kernel_rfl) (by kernel_rfl) (by kernel_rfl) (fun _ _ _ h => h) (Or.inl ⟨by kernel_rfl, ?_⟩) (by assumption) ?_
  rotate_left
  · (intro w hSw; (try dsimp only at hSw); go_simp); (try with_reducible rfl)
  try simp only [Act.put, List.getElem_toArray, List.getElem_cons_succ, List.getElem_cons_zero, List.setIfInBounds_toArray, List.set_cons_zero, List.set_cons_succ]
  refine wpAnyH_take (i := 10) (v := ?_) rfl (by kernel_rfl) (by kernel_rfl) (by kernel_rfl) (fun _ _ _ h => h) (Or.inl ⟨by kernel_rfl, ?_⟩) (by assumption) ?_
  rotate_left
  · (intro w hSw; (try dsimp only at hSw); go_simp); (try with_reducible rfl)
  try simp only [Act.put, List.getElem_toArray, List.getElem_cons_succ, List.getElem_cons_zero, List.setIfInBounds_toArray, List.set_cons_zero, List.set_cons_succ]
  refine wpAnyH_take (i := 12) (v := ?_) rfl (by kernel_rfl) (by kernel_rfl) (by kernel_rfl) (fun _ _ _ h => h) (Or.inl ⟨by kernel_rfl, ?_⟩) (by assumption) ?_
  rotate_left
  · (intro w hSw; (try dsimp only at hSw); go_simp); (try with_reducible rfl)
  try simp only [Act.put, List.getElem_toArray, List.getElem_cons_succ, List.getElem_cons_zero, List.setIfInBounds_toArray, List.set_cons_zero, List.set_cons_succ]
  refine wpAnyH_ready (rs := [9]) (by kernel_rfl) (by simp) ?_
  refine AllReadyH.cons rfl (fun K hK => ?_) ?_
  rotate_left
  · exact AllReadyH.nil
  go_simp
  (have hh := ‹_ ∧ Fit _ ∧ Below _ _ _›; obtain ⟨⟨c0, c1, c2, c3, c4, c5, c6, c7⟩, ft, hb⟩ := hh; refine (K4.out _).mono ?_; rintro e wN ⟨rfl, hBN⟩; have c0 := cell_keep hBN c0; have c1 := cell_keep hBN c1; have c2 := cell_keep hBN c2; have c3 := cell_keep hBN c3; have c4 := cell_keep hBN c4; have c5 := cell_keep hBN c5; have c6 := cell_keep hBN c6; have c7 := cell_keep hBN c7; have ft := ft.below hBN; have hb := hb.trans (hBN.mono hb.size); clear hBN; try simp only [sv])
  refine hK.out _ _ ?_ (fun hHeld => ?_)
  · (try dsimp only); (first | with_reducible assumption | ((repeat' apply And.intro) <;> first | with_reducible assumption | with_reducible exact cell_alloc1 _ (by with_reducible assumption) | exact Fit.drew (by with_reducible assumption) | exact Fit.alloc (by with_reducible assumption) _ | exact Below.drew (by with_reducible assumption) | exact Below.alloc (by with_reducible assumption) (Below.size (by with_reducible assumption)) _ | go_keep))
  clear hK K
  try simp only [Act.put, List.getElem_toArray, List.getElem_cons_succ, List.getElem_cons_zero, List.setIfInBounds_toArray, List.set_cons_zero, List.set_cons_succ]
  refine wpAnyH_ready (rs := [11]) (by kernel_rfl) (by simp) ?_
  refine AllReadyH.cons rfl (fun K hK => ?_) ?_
  rotate_left
  · exact AllReadyH.nil
  go_simp
  (have hh := ‹_ ∧ Fit _ ∧ Below _ _ _›; obtain ⟨⟨c0, c1, c2, c3, c4, c5, c6, c7⟩, ft, hb⟩ := hh; refine (K5.out _).mono ?_; rintro e wN ⟨rfl, hBN⟩; have c0 := cell_keep hBN c0; have c1 := cell_keep hBN c1; have c2 := cell_keep hBN c2; have c3 := cell_keep hBN c3; have c4 := cell_keep hBN c4; have c5 := cell_keep hBN c5; have c6 := cell_keep hBN c6; have c7 := cell_keep hBN c7; have ft := ft.below hBN; have hb := hb.trans (hBN.mono hb.size); clear hBN; try simp only [sv])
  refine hK.out _ _ ?_ (fun hHeld => ?_)
  · (try dsimp only); (first | with_reducible assumption | ((repeat' apply And.intro) <;> first | with_reducible assumption | with_reducible exact cell_alloc1 _ (by with_reducible assumption) | exact Fit.drew (by with_reducible assumption) | exact Fit.alloc (by with_reducible assumption) _ | exact Below.drew (by with_reducible assumption) | exact Below.alloc (by with_reducible assumption) (Below.size (by with_reducible assumption)) _ | go_keep))
  clear hK K
  try simp only [Act.put, List.getElem_toArray, List.getElem_cons_succ, List.getElem_cons_zero, List.setIfInBounds_toArray, List.set_cons_zero, List.set_cons_succ]
  refine wpAnyH_take (i := 13) (v := ?_) rfl (by kernel_rfl) (by kernel_rfl) (by kernel_rfl) (fun _ _ _ h => h) (Or.inl ⟨by kernel_rfl, ?_⟩) (by assumption) ?_
  rotate_left
  · (intro w hSw; (try dsimp only at hSw); go_simp); (try with_reducible rfl)
  try simp only [Act.put, List.getElem_toArray, List.getElem_cons_succ, List.getElem_cons_zero, List.setIfInBounds_toArray, List.set_cons_zero, List.set_cons_succ]
  refine wpAnyH_take (i := 14) (v := ?_) rfl (by kernel_rfl) (by kernel_rfl) (by kernel_rfl) (fun _ _ _ h => h) (Or.inl ⟨by kernel_rfl, ?_⟩) (by assumption) ?_
  rotate_left
  · (intro w hSw; (try dsimp only at hSw); go_simp); (try with_reducible rfl)
  try simp only [Act.put, List.getElem_toArray, List.getElem_cons_succ, List.getElem_cons_zero, List.setIfInBounds_toArray, List.set_cons_zero, List.set_cons_succ]
  refine wpAnyH_take (i := 15) (v := ?_) rfl (by kernel_rfl) (by kernel_rfl) (by kernel_rfl) (fun _ _ _ h => h) (Or.inl ⟨by kernel_rfl, ?_⟩) (by assumption) ?_
  rotate_left
  · (intro w hSw; (try dsimp only at hSw); go_simp); (try with_reducible rfl)
  try simp only [Act.put, List.getElem_toArray, List.getElem_cons_succ, List.getElem_cons_zero, List.setIfInBounds_toArray, List.set_cons_zero, List.set_cons_succ]
  refine wpAnyH_take (i := 16) (v := ?_) rfl (by kernel_rfl) (by kernel_rfl) (by kernel_rfl) (fun _ _ _ h => h) (Or.inl ⟨by kernel_rfl, ?_⟩) (by assumption) ?_
  rotate_left
  · (intro w hSw; (try dsimp only at hSw); go_simp); (try with_reducible rfl)
  try simp only [Act.put, List.getElem_toArray, List.getElem_cons_succ, List.getElem_cons_zero, List.setIfInBounds_toArray, List.set_cons_zero, List.set_cons_succ]
  refine wpAnyH_take (i := 17) (v := ?_) rfl (by kernel_rfl) (by kernel_rfl) (by kernel_rfl) (fun _ _ _ h => h) (Or.inl ⟨by kernel_rfl, ?_⟩) (by assumption) ?_
  rotate_left
  · (intro w hSw; (try dsimp only at hSw); go_simp); (try with_reducible rfl)
  try simp only [Act.put, List.getElem_toArray, List.getElem_cons_succ, List.getElem_cons_zero, List.setIfInBounds_toArray, List.set_cons_zero, List.set_cons_succ]
  refine wpAnyH_take (i := 18) (v := ?_) rfl (by kernel_rfl) (by kernel_rfl) (by kernel_rfl) (fun _ _ _ h => h) (Or.inl ⟨by kernel_rfl, ?_⟩) (by assumption) ?_
  rotate_left
  · (intro w hSw; (try dsimp only at hSw); go_simp); (try with_reducible rfl)
  try simp only [Act.put, List.getElem_toArray, List.getElem_cons_succ, List.getElem_cons_zero, List.setIfInBounds_toArray, List.set_cons_zero, List.set_cons_succ]
  refine wpAnyH_take (i := 21) (v := ?_) rfl (by kernel_rfl) (by kernel_rfl) (by kernel_rfl) (fun _ _ _ h => h) (Or.inl ⟨by kernel_rfl, ?_⟩) (by assumption) ?_
  rotate_left
  · (intro w hSw; (try dsimp only at hSw); go_simp); (try with_reducible rfl)
  try simp only [Act.put, List.getElem_toArray, List.getElem_cons_succ, List.getElem_cons_zero, List.setIfInBounds_toArray, List.set_cons_zero, List.set_cons_succ]
  refine wpAnyH_take (i := 22) (v := ?_) rfl (by kernel_rfl) (by kernel_rfl) (by kernel_rfl) (fun _ _ _ h => h) (Or.inl ⟨by kernel_rfl, ?_⟩) (by assumption) ?_
  rotate_left
  · (intro w hSw; (try dsimp only at hSw); go_simp); (try with_reducible rfl)
  try simp only [Act.put, List.getElem_toArray, List.getElem_cons_succ, List.getElem_cons_zero, List.setIfInBounds_toArray, List.set_cons_zero, List.set_cons_succ]
  refine wpAnyH_ready (rs := [19]) (by kernel_rfl) (by simp) ?_
  refine AllReadyH.cons rfl (fun K hK => ?_) ?_
  rotate_left
  · exact AllReadyH.nil
  go_simp
  (have hh := ‹_ ∧ Fit _ ∧ Below _ _ _›; obtain ⟨⟨c0, c1, c2, c3, c4, c5, c6, c7⟩, ft, hb⟩ := hh; refine (K6.out _).mono ?_; rintro e wN ⟨rfl, hBN⟩; have c0 := cell_keep hBN c0; have c1 := cell_keep hBN c1; have c2 := cell_keep hBN c2; have c3 := cell_keep hBN c3; have c4 := cell_keep hBN c4; have c5 := cell_keep hBN c5; have c6 := cell_keep hBN c6; have c7 := cell_keep hBN c7; have ft := ft.below hBN; have hb := hb.trans (hBN.mono hb.size); clear hBN; try simp only [sv])
  refine hK.out _ _ ?_ (fun hHeld => ?_)
  · (try dsimp only); (first | with_reducible assumption | ((repeat' apply And.intro) <;> first | with_reducible assumption | with_reducible exact cell_alloc1 _ (by with_reducible assumption) | exact Fit.drew (by with_reducible assumption) | exact Fit.alloc (by with_reducible assumption) _ | exact Below.drew (by with_reducible assumption) | exact Below.alloc (by with_reducible assumption) (Below.size (by with_reducible assumption)) _ | go_keep))
  clear hK K
  try simp only [Act.put, List.getElem_toArray, List.getElem_cons_succ, List.getElem_cons_zero, List.setIfInBounds_toArray, List.set_cons_zero, List.set_cons_succ]
  refine wpAnyH_ready (rs := [20]) (by kernel_rfl) (by simp) ?_
  refine AllReadyH.cons rfl (fun K hK => ?_) ?_
  rotate_left
  · exact AllReadyH.nil
  go_simp
  (have hh := ‹_ ∧ Fit _ ∧ Below _ _ _›; obtain ⟨⟨c0, c1, c2, c3, c4, c5, c6, c7⟩, ft, hb⟩ := hh; refine (K7.out _).mono ?_; rintro e wN ⟨rfl, hBN⟩; have c0 := cell_keep hBN c0; have c1 := cell_keep hBN c1; have c2 := cell_keep hBN c2; have c3 := cell_keep hBN c3; have c4 := cell_keep hBN c4; have c5 := cell_keep hBN c5; have c6 := cell_keep hBN c6; have c7 := cell_keep hBN c7; have ft := ft.below hBN; have hb := hb.trans (hBN.mono hb.size); clear hBN; try simp only [sv])
  refine hK.out _ _ ?_ (fun hHeld => ?_)
  · (try dsimp only); (first | with_reducible assumption | ((repeat' apply And.intro) <;> first | with_reducible assumption | with_reducible exact cell_alloc1 _ (by with_reducible assumption) | exact Fit.drew (by with_reducible assumption) | exact Fit.alloc (by with_reducible assumption) _ | exact Below.drew (by with_reducible assumption) | exact Below.alloc (by with_reducible assumption) (Below.size (by with_reducible assumption)) _ | go_keep))
  clear hK K
  try simp only [Act.put, List.getElem_toArray, List.getElem_cons_succ, List.getElem_cons_zero, List.setIfInBounds_toArray, List.set_cons_zero, List.set_cons_succ]
  refine wpAnyH_ready (rs := [23]) (by kernel_rfl) (by simp) ?_
  refine AllReadyH.cons rfl (fun K hK => ?_) ?_
  rotate_left
  · exact AllReadyH.nil
  go_simp
  (have hh := ‹_ ∧ Fit _ ∧ Below _ _ _›; obtain ⟨⟨c0, c1, c2, c3, c4, c5, c6, c7⟩, ft, hb⟩ := hh; refine (K8.out _).mono ?_; rintro e wN ⟨rfl, hBN⟩; have c0 := cell_keep hBN c0; have c1 := cell_keep hBN c1; have c2 := cell_keep hBN c2; have c3 := cell_keep hBN c3; have c4 := cell_keep hBN c4; have c5 := cell_keep hBN c5; have c6 := cell_keep hBN c6; have c7 := cell_keep hBN c7; have ft := ft.below hBN; have hb := hb.trans (hBN.mono hb.size); clear hBN; try simp only [sv])
  refine hK.out _ _ ?_ (fun hHeld => ?_)
  · (try dsimp only); (first | with_reducible assumption | ((repeat' apply And.intro) <;> first | with_reducible assumption | with_reducible exact cell_alloc1 _ (by with_reducible assumption) | exact Fit.drew (by with_reducible assumption) | exact Fit.alloc (by with_reducible assumption) _ | exact Below.drew (by with_reducible assumption) | exact Below.alloc (by with_reducible assumption) (Below.size (by with_reducible assumption)) _ | go_keep))
  clear hK K
  try simp only [Act.put, List.getElem_toArray, List.getElem_cons_succ, List.getElem_cons_zero, List.setIfInBounds_toArray, List.set_cons_zero, List.set_cons_succ]
  refine wpAnyH_take (i := 24) (v := ?_) rfl (by kernel_rfl) (by kernel_rfl) (by kernel_rfl) (fun _ _ _ h => h) (Or.inl ⟨by kernel_rfl, ?_⟩) (by assumption) ?_
  rotate_left
  · (intro w hSw; (try dsimp only at hSw); go_simp); (try with_reducible rfl)
  try simp only [Act.put, List.getElem_toArray, List.getElem_cons_succ, List.getElem_cons_zero, List.setIfInBounds_toArray, List.set_cons_zero, List.set_cons_succ]
  refine wpAnyH_take (i := 25) (v := ?_) rfl (by kernel_rfl) (by kernel_rfl) (by kernel_rfl) (fun _ _ _ h => h) (Or.inl ⟨by kernel_rfl, ?_⟩) (by assumption) ?_
  rotate_left
  · (intro w hSw; (try dsimp only at hSw); go_simp); (try with_reducible rfl)
  try simp only [Act.put, List.getElem_toArray, List.getElem_cons_succ, List.getElem_cons_zero, List.setIfInBounds_toArray, List.set_cons_zero, List.set_cons_succ]
  refine wpAnyH_take (i := 26) (v := ?_) rfl (by kernel_rfl) (by kernel_rfl) (by kernel_rfl) (fun _ _ _ h => h) (Or.inl ⟨by kernel_rfl, ?_⟩) (by assumption) ?_
  rotate_left
  · (intro w hSw; (try dsimp only at hSw); go_simp); (try with_reducible rfl)
  try simp only [Act.put, List.getElem_toArray, List.getElem_cons_succ, List.getElem_cons_zero, List.setIfInBounds_toArray, List.set_cons_zero, List.set_cons_succ]
  refine wpAnyH_take (i := 27) (v := ?_) rfl (by kernel_rfl) (by kernel_rfl) (by kernel_rfl) (fun _ _ _ h => h) (Or.inl ⟨by kernel_rfl, ?_⟩) (by assumption) ?_
  rotate_left
  · (intro w hSw; (try dsimp only at hSw); go_simp); (try with_reducible rfl)
  try simp only [Act.put, List.getElem_toArray, List.getElem_cons_succ, List.getElem_cons_zero, List.setIfInBounds_toArray, List.set_cons_zero, List.set_cons_succ]
  refine wpAnyH_take (i := 28) (v := ?_) rfl (by kernel_rfl) (by kernel_rfl) (by kernel_rfl) (fun _ _ _ h => h) (Or.inl ⟨by kernel_rfl, ?_⟩) (by assumption) ?_
  rotate_left
  · (intro w hSw; (try dsimp only at hSw); go_simp); (try with_reducible rfl)
  try simp only [Act.put, List.getElem_toArray, List.getElem_cons_succ, List.getElem_cons_zero, List.setIfInBounds_toArray, List.set_cons_zero, List.set_cons_succ]
  refine wpAnyH_take (i := 32) (v := ?_) rfl (by kernel_rfl) (by kernel_rfl) (by kernel_rfl) (fun _ _ _ h => h) (Or.inl ⟨by kernel_rfl, ?_⟩) (by assumption) ?_
  rotate_left
  · (intro w hSw; (try dsimp only at hSw); go_simp); (try with_reducible rfl)
  try simp only [Act.put, List.getElem_toArray, List.getElem_cons_succ, List.getElem_cons_zero, List.setIfInBounds_toArray, List.set_cons_zero, List.set_cons_succ]
  refine wpAnyH_take (i := 34) (v := ?_) rfl (by kernel_rfl) (by kernel_rfl) (by kernel_rfl) (fun _ _ _ h => h) (Or.inl ⟨by kernel_rfl, ?_⟩) (by assumption) ?_
  rotate_left
  · (intro w hSw; (try dsimp only at hSw); go_simp); (try with_reducible rfl)
  try simp only [Act.put, List.getElem_toArray, List.getElem_cons_succ, List.getElem_cons_zero, List.setIfInBounds_toArray, List.set_cons_zero, List.set_cons_succ]
  refine wpAnyH_ready (rs := [29]) (by kernel_rfl) (by simp) ?_
  refine AllReadyH.cons rfl (fun K hK => ?_) ?_
  rotate_left
  · exact AllReadyH.nil
  go_simp
  refine hK.out _ _ ?_ (fun hHeld => ?_)
  · (try dsimp only); (first | with_reducible assumption | ((repeat' apply And.intro) <;> first | with_reducible assumption | with_reducible exact cell_alloc1 _ (by with_reducible assumption) | exact Fit.drew (by with_reducible assumption) | exact Fit.alloc (by with_reducible assumption) _ | exact Below.drew (by with_reducible assumption) | exact Below.alloc (by with_reducible assumption) (Below.size (by with_reducible assumption)) _ | go_keep))
  clear hK K
  try simp only [Act.put, List.getElem_toArray, List.getElem_cons_succ, List.getElem_cons_zero, List.setIfInBounds_toArray, List.set_cons_zero, List.set_cons_succ]
  refine wpAnyH_ready (rs := [30]) (by kernel_rfl) (by simp) ?_
  refine AllReadyH.cons rfl (fun K hK => ?_) ?_
  rotate_left
  · exact AllReadyH.nil
  go_simp
  (have hh := ‹_ ∧ Fit _ ∧ Below _ _ _›; obtain ⟨⟨c0, c1, c2, c3, c4, c5, c6, c7⟩, ft, hb⟩ := hh; refine (K9.out _ _ _ (by first | exact heap_new wN _ | exact heap_new _ _ | (have := heap_new wN (.cells #[.int .u64 (wd s 0), .int .u64 (wd s 1), .int .u64 (wd s 2), .int .u64 (wd s 3), .int .u64 (wd t 0), .int .u64 (wd t 1), .int .u64 (wd t 2), .int .u64 (wd t 3)] 24); simpa using this))).mono ?_; rintro e wN ⟨rfl, hBN⟩; have c0 := cell_keep hBN c0; have c1 := cell_keep hBN c1; have c2 := cell_keep hBN c2; have c3 := cell_keep hBN c3; have c4 := cell_keep hBN c4; have c5 := cell_keep hBN c5; have c6 := cell_keep hBN c6; have c7 := cell_keep hBN c7; have ft := ft.below hBN; have hb := hb.trans (hBN.mono hb.size); clear hBN; try simp only [sv])
  refine hK.out _ _ ?_ (fun hHeld => ?_)
  · (try dsimp only); (first | with_reducible assumption | ((repeat' apply And.intro) <;> first | with_reducible assumption | with_reducible exact cell_alloc1 _ (by with_reducible assumption) | exact Fit.drew (by with_reducible assumption) | exact Fit.alloc (by with_reducible assumption) _ | exact Below.drew (by with_reducible assumption) | exact Below.alloc (by with_reducible assumption) (Below.size (by with_reducible assumption)) _ | go_keep))
  clear hK K
  try simp only [Act.put, List.getElem_toArray, List.getElem_cons_succ, List.getElem_cons_zero, List.setIfInBounds_toArray, List.set_cons_zero, List.set_cons_succ]
  refine wpAnyH_ready (rs := [31]) (by kernel_rfl) (by simp) ?_
  refine AllReadyH.cons rfl (fun K hK => ?_) ?_
  rotate_left
  · exact AllReadyH.nil
  go_simp
  (have hh := ‹_ ∧ Fit _ ∧ Below _ _ _›; obtain ⟨⟨c0, c1, c2, c3, c4, c5, c6, c7⟩, ft, hb⟩ := hh; refine (K10.out _).mono ?_; rintro e wN ⟨rfl, hBN⟩; have c0 := cell_keep hBN c0; have c1 := cell_keep hBN c1; have c2 := cell_keep hBN c2; have c3 := cell_keep hBN c3; have c4 := cell_keep hBN c4; have c5 := cell_keep hBN c5; have c6 := cell_keep hBN c6; have c7 := cell_keep hBN c7; have ft := ft.below hBN; have hb := hb.trans (hBN.mono hb.size); clear hBN; try simp only [sv])
  refine hK.out _ _ ?_ (fun hHeld => ?_)
  · (try dsimp only); (first | with_reducible assumption | ((repeat' apply And.intro) <;> first | with_reducible assumption | with_reducible exact cell_alloc1 _ (by with_reducible assumption) | exact Fit.drew (by with_reducible assumption) | exact Fit.alloc (by with_reducible assumption) _ | exact Below.drew (by with_reducible assumption) | exact Below.alloc (by with_reducible assumption) (Below.size (by with_reducible assumption)) _ | go_keep))
  clear hK K
  try simp only [Act.put, List.getElem_toArray, List.getElem_cons_succ, List.getElem_cons_zero, List.setIfInBounds_toArray, List.set_cons_zero, List.set_cons_succ]
  refine wpAnyH_ready (rs := [33]) (by kernel_rfl) (by simp) ?_
  refine AllReadyH.cons rfl (fun K hK => ?_) ?_
  rotate_left
  · exact AllReadyH.nil
  go_simp
  (have hh := ‹_ ∧ Fit _ ∧ Below _ _ _›; obtain ⟨⟨c0, c1, c2, c3, c4, c5, c6, c7⟩, ft, hb⟩ := hh; refine (K5.out _).mono ?_; rintro e wN ⟨rfl, hBN⟩; have c0 := cell_keep hBN c0; have c1 := cell_keep hBN c1; have c2 := cell_keep hBN c2; have c3 := cell_keep hBN c3; have c4 := cell_keep hBN c4; have c5 := cell_keep hBN c5; have c6 := cell_keep hBN c6; have c7 := cell_keep hBN c7; have ft := ft.below hBN; have hb := hb.trans (hBN.mono hb.size); clear hBN; try simp only [sv])
  refine hK.out _ _ ?_ (fun hHeld => ?_)
  · (try dsimp only); (first | with_reducible assumption | ((repeat' apply And.intro) <;> first | with_reducible assumption | with_reducible exact cell_alloc1 _ (by with_reducible assumption) | exact Fit.drew (by with_reducible assumption) | exact Fit.alloc (by with_reducible assumption) _ | exact Below.drew (by with_reducible assumption) | exact Below.alloc (by with_reducible assumption) (Below.size (by with_reducible assumption)) _ | go_keep))
  clear hK K
  try simp only [Act.put, List.getElem_toArray, List.getElem_cons_succ, List.getElem_cons_zero, List.setIfInBounds_toArray, List.set_cons_zero, List.set_cons_succ]
  refine wpAnyH_ready (rs := [35]) (by kernel_rfl) (by simp) ?_
  refine AllReadyH.cons rfl (fun K hK => ?_) ?_
  rotate_left
  · exact AllReadyH.nil
  go_simp
  (have hh := ‹_ ∧ Fit _ ∧ Below _ _ _›; obtain ⟨⟨c0, c1, c2, c3, c4, c5, c6, c7⟩, ft, hb⟩ := hh; refine (K5T.out _).mono ?_; rintro e wN ⟨rfl, hBN⟩; have c0 := cell_keep hBN c0; have c1 := cell_keep hBN c1; have c2 := cell_keep hBN c2; have c3 := cell_keep hBN c3; have c4 := cell_keep hBN c4; have c5 := cell_keep hBN c5; have c6 := cell_keep hBN c6; have c7 := cell_keep hBN c7; have ft := ft.below hBN; have hb := hb.trans (hBN.mono hb.size); clear hBN; try simp only [sv])
  refine hK.out _ _ ?_ (fun hHeld => ?_)
  · (try dsimp only); (first | with_reducible assumption | ((repeat' apply And.intro) <;> first | with_reducible assumption | with_reducible exact cell_alloc1 _ (by with_reducible assumption) | exact Fit.drew (by with_reducible assumption) | exact Fit.alloc (by with_reducible assumption) _ | exact Below.drew (by with_reducible assumption) | exact Below.alloc (by with_reducible assumption) (Below.size (by with_reducible assumption)) _ | go_keep))
  clear hK K
  try simp only [Act.put, List.getElem_toArray, List.getElem_cons_succ, List.getElem_cons_zero, List.setIfInBounds_toArray, List.set_cons_zero, List.set_cons_succ]
  refine wpAnyH_ready (rs := [36]) (by kernel_rfl) (by simp) ?_
  refine AllReadyH.cons rfl (fun K hK => ?_) ?_
  rotate_left
  · exact AllReadyH.nil
  go_simp
  (have hh := ‹_ ∧ Fit _ ∧ Below _ _ _›; obtain ⟨⟨c0, c1, c2, c3, c4, c5, c6, c7⟩, ft, hb⟩ := hh; refine (K11.out _).mono ?_; rintro e wN ⟨rfl, hBN⟩; have c0 := cell_keep hBN c0; have c1 := cell_keep hBN c1; have c2 := cell_keep hBN c2; have c3 := cell_keep hBN c3; have c4 := cell_keep hBN c4; have c5 := cell_keep hBN c5; have c6 := cell_keep hBN c6; have c7 := cell_keep hBN c7; have ft := ft.below hBN; have hb := hb.trans (hBN.mono hb.size); clear hBN; try simp only [sv])
  refine hK.out _ _ ?_ (fun hHeld => ?_)
  · (try dsimp only); (first | with_reducible assumption | ((repeat' apply And.intro) <;> first | with_reducible assumption | with_reducible exact cell_alloc1 _ (by with_reducible assumption) | exact Fit.drew (by with_reducible assumption) | exact Fit.alloc (by with_reducible assumption) _ | exact Below.drew (by with_reducible assumption) | exact Below.alloc (by with_reducible assumption) (Below.size (by with_reducible assumption)) _ | go_keep))
  clear hK K
  try simp only [Act.put, List.getElem_toArray, List.getElem_cons_succ, List.getElem_cons_zero, List.setIfInBounds_toArray, List.set_cons_zero, List.set_cons_succ]
  refine wpAnyH_take (i := 37) (v := ?_) rfl (by kernel_rfl) (by kernel_rfl) (by kernel_rfl) (fun _ _ _ h => h) (Or.inl ⟨by kernel_rfl, ?_⟩) (by assumption) ?_
  rotate_left
  · (intro w hSw; (try dsimp only at hSw); go_simp); (try with_reducible rfl)
  try simp only [Act.put, List.getElem_toArray, List.getElem_cons_succ, List.getElem_cons_zero, List.setIfInBounds_toArray, List.set_cons_zero, List.set_cons_succ]
  refine wpAnyH_take (i := 38) (v := ?_) rfl (by kernel_rfl) (by kernel_rfl) (by kernel_rfl) (fun _ _ _ h => h) (Or.inl ⟨by kernel_rfl, ?_⟩) (by assumption) ?_
  rotate_left
  · (intro w hSw; (try dsimp only at hSw); go_simp); (try with_reducible rfl)
  try simp only [Act.put, List.getElem_toArray, List.getElem_cons_succ, List.getElem_cons_zero, List.setIfInBounds_toArray, List.set_cons_zero, List.set_cons_succ]
  refine wpAnyH_take (i := 39) (v := ?_) rfl (by kernel_rfl) (by kernel_rfl) (by kernel_rfl) (fun _ _ _ h => h) (Or.inl ⟨by kernel_rfl, ?_⟩) (by assumption) ?_
  rotate_left
  · (intro w hSw; (try dsimp only at hSw); go_simp); (try with_reducible rfl)
  try simp only [Act.put, List.getElem_toArray, List.getElem_cons_succ, List.getElem_cons_zero, List.setIfInBounds_toArray, List.set_cons_zero, List.set_cons_succ]
  refine wpAnyH_take (i := 40) (v := ?_) rfl (by kernel_rfl) (by kernel_rfl) (by kernel_rfl) (fun _ _ _ h => h) (Or.inl ⟨by kernel_rfl, ?_⟩) (by assumption) ?_
  rotate_left
  · (intro w hSw; (try dsimp only at hSw); go_simp); (try with_reducible rfl)
  try simp only [Act.put, List.getElem_toArray, List.getElem_cons_succ, List.getElem_cons_zero, List.setIfInBounds_toArray, List.set_cons_zero, List.set_cons_succ]
  refine wpAnyH_take (i := 43) (v := ?_) rfl (by kernel_rfl) (by kernel_rfl) (by kernel_rfl) (fun _ _ _ h => h) (Or.inl ⟨by kernel_rfl, ?_⟩) (by assumption) ?_
  rotate_left
  · (intro w hSw; (try dsimp only at hSw); go_simp); (try with_reducible rfl)
  try simp only [Act.put, List.getElem_toArray, List.getElem_cons_succ, List.getElem_cons_zero, List.setIfInBounds_toArray, List.set_cons_zero, List.set_cons_succ]
  refine wpAnyH_ready (rs := [41]) (by kernel_rfl) (by simp) ?_
  refine AllReadyH.cons rfl (fun K hK => ?_) ?_
  rotate_left
  · exact AllReadyH.nil
  go_simp
  (have hh := ‹_ ∧ Fit _ ∧ Below _ _ _›; obtain ⟨⟨c0, c1, c2, c3, c4, c5, c6, c7⟩, ft, hb⟩ := hh; refine (K12.out _).mono ?_; rintro e wN ⟨rfl, hBN⟩; have c0 := cell_keep hBN c0; have c1 := cell_keep hBN c1; have c2 := cell_keep hBN c2; have c3 := cell_keep hBN c3; have c4 := cell_keep hBN c4; have c5 := cell_keep hBN c5; have c6 := cell_keep hBN c6; have c7 := cell_keep hBN c7; have ft := ft.below hBN; have hb := hb.trans (hBN.mono hb.size); clear hBN; try simp only [sv])
  refine hK.out _ _ ?_ (fun hHeld => ?_)
  · (try dsimp only); (first | with_reducible assumption | ((repeat' apply And.intro) <;> first | with_reducible assumption | with_reducible exact cell_alloc1 _ (by with_reducible assumption) | exact Fit.drew (by with_reducible assumption) | exact Fit.alloc (by with_reducible assumption) _ | exact Below.drew (by with_reducible assumption) | exact Below.alloc (by with_reducible assumption) (Below.size (by with_reducible assumption)) _ | go_keep))
  clear hK K
  try simp only [Act.put, List.getElem_toArray, List.getElem_cons_succ, List.getElem_cons_zero, List.setIfInBounds_toArray, List.set_cons_zero, List.set_cons_succ]
  refine wpAnyH_ready (rs := [42]) (by kernel_rfl) (by simp) ?_
  refine AllReadyH.cons rfl (fun K hK => ?_) ?_
  rotate_left
  · exact AllReadyH.nil
  go_simp
  (have hh := ‹_ ∧ Fit _ ∧ Below _ _ _›; obtain ⟨⟨c0, c1, c2, c3, c4, c5, c6, c7⟩, ft, hb⟩ := hh; refine (K13.out _).mono ?_; rintro e wN ⟨rfl, hBN⟩; have c0 := cell_keep hBN c0; have c1 := cell_keep hBN c1; have c2 := cell_keep hBN c2; have c3 := cell_keep hBN c3; have c4 := cell_keep hBN c4; have c5 := cell_keep hBN c5; have c6 := cell_keep hBN c6; have c7 := cell_keep hBN c7; have ft := ft.below hBN; have hb := hb.trans (hBN.mono hb.size); clear hBN; try simp only [sv])
  refine hK.out _ _ ?_ (fun hHeld => ?_)
  · (try dsimp only); (first | with_reducible assumption | ((repeat' apply And.intro) <;> first | with_reducible assumption | with_reducible exact cell_alloc1 _ (by with_reducible assumption) | exact Fit.drew (by with_reducible assumption) | exact Fit.alloc (by with_reducible assumption) _ | exact Below.drew (by with_reducible assumption) | exact Below.alloc (by with_reducible assumption) (Below.size (by with_reducible assumption)) _ | go_keep))
  clear hK K
  try simp only [Act.put, List.getElem_toArray, List.getElem_cons_succ, List.getElem_cons_zero, List.setIfInBounds_toArray, List.set_cons_zero, List.set_cons_succ]
  refine wpAnyH_ready (rs := [44]) (by kernel_rfl) (by simp) ?_
  refine AllReadyH.cons rfl (fun K hK => ?_) ?_
  rotate_left
  · exact AllReadyH.nil
  go_simp
  (have hh := ‹_ ∧ Fit _ ∧ Below _ _ _›; obtain ⟨⟨c0, c1, c2, c3, c4, c5, c6, c7⟩, ft, hb⟩ := hh; refine (K5.out _).mono ?_; rintro e wN ⟨rfl, hBN⟩; have c0 := cell_keep hBN c0; have c1 := cell_keep hBN c1; have c2 := cell_keep hBN c2; have c3 := cell_keep hBN c3; have c4 := cell_keep hBN c4; have c5 := cell_keep hBN c5; have c6 := cell_keep hBN c6; have c7 := cell_keep hBN c7; have ft := ft.below hBN; have hb := hb.trans (hBN.mono hb.size); clear hBN; try simp only [sv])
  refine hK.out _ _ ?_ (fun hHeld => ?_)
  · (try dsimp only); (first | with_reducible assumption | ((repeat' apply And.intro) <;> first | with_reducible assumption | with_reducible exact cell_alloc1 _ (by with_reducible assumption) | exact Fit.drew (by with_reducible assumption) | exact Fit.alloc (by with_reducible assumption) _ | exact Below.drew (by with_reducible assumption) | exact Below.alloc (by with_reducible assumption) (Below.size (by with_reducible assumption)) _ | go_keep))
  clear hK K
  try simp only [Act.put, List.getElem_toArray, List.getElem_cons_succ, List.getElem_cons_zero, List.setIfInBounds_toArray, List.set_cons_zero, List.set_cons_succ]
  refine wpAnyH_ready (rs := [45]) (by kernel_rfl) (by simp) ?_
  refine AllReadyH.cons rfl (fun K hK => ?_) ?_
  rotate_left
  · exact AllReadyH.nil
  go_simp
  (have hh := ‹_ ∧ Fit _ ∧ Below _ _ _›; obtain ⟨⟨c0, c1, c2, c3, c4, c5, c6, c7⟩, ft, hb⟩ := hh; refine (K14.out _).mono ?_; rintro e wN ⟨rfl, hBN⟩; have c0 := cell_keep hBN c0; have c1 := cell_keep hBN c1; have c2 := cell_keep hBN c2; have c3 := cell_keep hBN c3; have c4 := cell_keep hBN c4; have c5 := cell_keep hBN c5; have c6 := cell_keep hBN c6; have c7 := cell_keep hBN c7; have ft := ft.below hBN; have hb := hb.trans (hBN.mono hb.size); clear hBN; try simp only [sv])
  refine hK.out _ _ ?_ (fun hHeld => ?_)
  · (try dsimp only); (first | with_reducible assumption | ((repeat' apply And.intro) <;> first | with_reducible assumption | with_reducible exact cell_alloc1 _ (by with_reducible assumption) | exact Fit.drew (by with_reducible assumption) | exact Fit.alloc (by with_reducible assumption) _ | exact Below.drew (by with_reducible assumption) | exact Below.alloc (by with_reducible assumption) (Below.size (by with_reducible assumption)) _ | go_keep))
  clear hK K
  try simp only [Act.put, List.getElem_toArray, List.getElem_cons_succ, List.getElem_cons_zero, List.setIfInBounds_toArray, List.set_cons_zero, List.set_cons_succ]
  refine wpAnyH_take (i := 46) (v := ?_) rfl (by kernel_rfl) (by kernel_rfl) (by kernel_rfl) (fun _ _ _ h => h) (Or.inl ⟨by kernel_rfl, ?_⟩) (by assumption) ?_
  rotate_left
  · (intro w hSw; (try dsimp only at hSw); go_simp); (try with_reducible rfl)
  try simp only [Act.put, List.getElem_toArray, List.getElem_cons_succ, List.getElem_cons_zero, List.setIfInBounds_toArray, List.set_cons_zero, List.set_cons_succ]
  refine wpAnyH_take (i := 47) (v := ?_) rfl (by kernel_rfl) (by kernel_rfl) (by kernel_rfl) (fun _ _ _ h => h) (Or.inl ⟨by kernel_rfl, ?_⟩) (by assumption) ?_
  rotate_left
  · (intro w hSw; (try dsimp only at hSw); go_simp); (try with_reducible rfl)
  try simp only [Act.put, List.getElem_toArray, List.getElem_cons_succ, List.getElem_cons_zero, List.setIfInBounds_toArray, List.set_cons_zero, List.set_cons_succ]
  refine wpAnyH_take (i := 48) (v := ?_) rfl (by kernel_rfl) (by kernel_rfl) (by kernel_rfl) (fun _ _ _ h => h) (Or.inl ⟨by kernel_rfl, ?_⟩) (by assumption) ?_
  rotate_left
  · (intro w hSw; (try dsimp only at hSw); go_simp); (try with_reducible rfl)
  try simp only [Act.put, List.getElem_toArray, List.getElem_cons_succ, List.getElem_cons_zero, List.setIfInBounds_toArray, List.set_cons_zero, List.set_cons_succ]
  refine wpAnyH_take (i := 49) (v := ?_) rfl (by kernel_rfl) (by kernel_rfl) (by kernel_rfl) (fun _ _ _ h => h) (Or.inl ⟨by kernel_rfl, ?_⟩) (by assumption) ?_
  rotate_left
  · (intro w hSw; (try dsimp only at hSw); go_simp); (try with_reducible rfl)
  try simp only [Act.put, List.getElem_toArray, List.getElem_cons_succ, List.getElem_cons_zero, List.setIfInBounds_toArray, List.set_cons_zero, List.set_cons_succ]
  refine wpAnyH_take (i := 52) (v := ?_) rfl (by kernel_rfl) (by kernel_rfl) (by kernel_rfl) (fun _ _ _ h => h) (Or.inl ⟨by kernel_rfl, ?_⟩) (by assumption) ?_
  rotate_left
  · (intro w hSw; (try dsimp only at hSw); go_simp); (try with_reducible rfl)
  try simp only [Act.put, List.getElem_toArray, List.getElem_cons_succ, List.getElem_cons_zero, List.setIfInBounds_toArray, List.set_cons_zero, List.set_cons_succ]
  refine wpAnyH_ready (rs := [50]) (by kernel_rfl) (by simp) ?_
  refine AllReadyH.cons rfl (fun K hK => ?_) ?_
  rotate_left
  · exact AllReadyH.nil
  go_simp
  (have hh := ‹_ ∧ Fit _ ∧ Below _ _ _›; obtain ⟨⟨c0, c1, c2, c3, c4, c5, c6, c7⟩, ft, hb⟩ := hh; refine (K15.out _ ft).mono ?_; rintro e wN ⟨rfl, hBN⟩; have c0 := cell_keep hBN c0; have c1 := cell_keep hBN c1; have c2 := cell_keep hBN c2; have c3 := cell_keep hBN c3; have c4 := cell_keep hBN c4; have c5 := cell_keep hBN c5; have c6 := cell_keep hBN c6; have c7 := cell_keep hBN c7; have ft := ft.below hBN; have hb := hb.trans (hBN.mono hb.size); clear hBN; try simp only [sv])
  refine hK.out _ _ ?_ (fun hHeld => ?_)
  · (try dsimp only); (first | with_reducible assumption | ((repeat' apply And.intro) <;> first | with_reducible assumption | with_reducible exact cell_alloc1 _ (by with_reducible assumption) | exact Fit.drew (by with_reducible assumption) | exact Fit.alloc (by with_reducible assumption) _ | exact Below.drew (by with_reducible assumption) | exact Below.alloc (by with_reducible assumption) (Below.size (by with_reducible assumption)) _ | go_keep))
  clear hK K
  try simp only [Act.put, List.getElem_toArray, List.getElem_cons_succ, List.getElem_cons_zero, List.setIfInBounds_toArray, List.set_cons_zero, List.set_cons_succ]
  refine wpAnyH_ready (rs := [51]) (by kernel_rfl) (by simp) ?_
  refine AllReadyH.cons rfl (fun K hK => ?_) ?_
  rotate_left
  · exact AllReadyH.nil
  go_simp
  (have hh := ‹_ ∧ Fit _ ∧ Below _ _ _›; obtain ⟨⟨c0, c1, c2, c3, c4, c5, c6, c7⟩, ft, hb⟩ := hh; refine (K16.out _).mono ?_; rintro e wN ⟨rfl, hBN⟩; have c0 := cell_keep hBN c0; have c1 := cell_keep hBN c1; have c2 := cell_keep hBN c2; have c3 := cell_keep hBN c3; have c4 := cell_keep hBN c4; have c5 := cell_keep hBN c5; have c6 := cell_keep hBN c6; have c7 := cell_keep hBN c7; have ft := ft.below hBN; have hb := hb.trans (hBN.mono hb.size); clear hBN; try simp only [sv])
  refine hK.out _ _ ?_ (fun hHeld => ?_)
  · (try dsimp only); (first | with_reducible assumption | ((repeat' apply And.intro) <;> first | with_reducible assumption | with_reducible exact cell_alloc1 _ (by with_reducible assumption) | exact Fit.drew (by with_reducible assumption) | exact Fit.alloc (by with_reducible assumption) _ | exact Below.drew (by with_reducible assumption) | exact Below.alloc (by with_reducible assumption) (Below.size (by with_reducible assumption)) _ | go_keep))
  clear hK K
  try simp only [Act.put, List.getElem_toArray, List.getElem_cons_succ, List.getElem_cons_zero, List.setIfInBounds_toArray, List.set_cons_zero, List.set_cons_succ]
  refine wpAnyH_ready (rs := [53]) (by kernel_rfl) (by simp) ?_
  refine AllReadyH.cons rfl (fun K hK => ?_) ?_
  rotate_left
  · exact AllReadyH.nil
  go_simp
  (have hh := ‹_ ∧ Fit _ ∧ Below _ _ _›; obtain ⟨⟨c0, c1, c2, c3, c4, c5, c6, c7⟩, ft, hb⟩ := hh; refine (K5.out _).mono ?_; rintro e wN ⟨rfl, hBN⟩; have c0 := cell_keep hBN c0; have c1 := cell_keep hBN c1; have c2 := cell_keep hBN c2; have c3 := cell_keep hBN c3; have c4 := cell_keep hBN c4; have c5 := cell_keep hBN c5; have c6 := cell_keep hBN c6; have c7 := cell_keep hBN c7; have ft := ft.below hBN; have hb := hb.trans (hBN.mono hb.size); clear hBN; try simp only [sv])
  refine hK.out _ _ ?_ (fun hHeld => ?_)
  · (try dsimp only); (first | with_reducible assumption | ((repeat' apply And.intro) <;> first | with_reducible assumption | with_reducible exact cell_alloc1 _ (by with_reducible assumption) | exact Fit.drew (by with_reducible assumption) | exact Fit.alloc (by with_reducible assumption) _ | exact Below.drew (by with_reducible assumption) | exact Below.alloc (by with_reducible assumption) (Below.size (by with_reducible assumption)) _ | go_keep))
  clear hK K
  try simp only [Act.put, List.getElem_toArray, List.getElem_cons_succ, List.getElem_cons_zero, List.setIfInBounds_toArray, List.set_cons_zero, List.set_cons_succ]
  refine wpAnyH_ready (rs := [54]) (by kernel_rfl) (by simp) ?_
  refine AllReadyH.cons rfl (fun K hK => ?_) ?_
  rotate_left
  · exact AllReadyH.nil
  go_simp
  (have hh := ‹_ ∧ Fit _ ∧ Below _ _ _›; obtain ⟨⟨c0, c1, c2, c3, c4, c5, c6, c7⟩, ft, hb⟩ := hh; refine (K17.out _).mono ?_; rintro e wN ⟨rfl, hBN⟩; have c0 := cell_keep hBN c0; have c1 := cell_keep hBN c1; have c2 := cell_keep hBN c2; have c3 := cell_keep hBN c3; have c4 := cell_keep hBN c4; have c5 := cell_keep hBN c5; have c6 := cell_keep hBN c6; have c7 := cell_keep hBN c7; have ft := ft.below hBN; have hb := hb.trans (hBN.mono hb.size); clear hBN; try simp only [sv])
  refine hK.out _ _ ?_ (fun hHeld => ?_)
  · (try dsimp only); (first | with_reducible assumption | ((repeat' apply And.intro) <;> first | with_reducible assumption | with_reducible exact cell_alloc1 _ (by with_reducible assumption) | exact Fit.drew (by with_reducible assumption) | exact Fit.alloc (by with_reducible assumption) _ | exact Below.drew (by with_reducible assumption) | exact Below.alloc (by with_reducible assumption) (Below.size (by with_reducible assumption)) _ | go_keep))
  clear hK K
  try simp only [Act.put, List.getElem_toArray, List.getElem_cons_succ, List.getElem_cons_zero, List.setIfInBounds_toArray, List.set_cons_zero, List.set_cons_succ]
  refine wpAnyH_take (i := 55) (v := ?_) rfl (by kernel_rfl) (by kernel_rfl) (by kernel_rfl) (fun _ _ _ h => h) (Or.inl ⟨by kernel_rfl, ?_⟩) (by assumption) ?_
  rotate_left
  · (intro w hSw; (try dsimp only at hSw); go_simp); (try with_reducible rfl)
  try simp only [Act.put, List.getElem_toArray, List.getElem_cons_succ, List.getElem_cons_zero, List.setIfInBounds_toArray, List.set_cons_zero, List.set_cons_succ]
  refine wpAnyH_take (i := 56) (v := ?_) rfl (by kernel_rfl) (by kernel_rfl) (by kernel_rfl) (fun _ _ _ h => h) (Or.inl ⟨by kernel_rfl, ?_⟩) (by assumption) ?_
  rotate_left
  · (intro w hSw; (try dsimp only at hSw); go_simp); (try with_reducible rfl)
  try simp only [Act.put, List.getElem_toArray, List.getElem_cons_succ, List.getElem_cons_zero, List.setIfInBounds_toArray, List.set_cons_zero, List.set_cons_succ]
  refine wpAnyH_take (i := 57) (v := ?_) rfl (by kernel_rfl) (by kernel_rfl) (by kernel_rfl) (fun _ _ _ h => h) (Or.inl ⟨by kernel_rfl, ?_⟩) (by assumption) ?_
  rotate_left
  · (intro w hSw; (try dsimp only at hSw); go_simp); (try with_reducible rfl)
  try simp only [Act.put, List.getElem_toArray, List.getElem_cons_succ, List.getElem_cons_zero, List.setIfInBounds_toArray, List.set_cons_zero, List.set_cons_succ]
  refine wpAnyH_take (i := 58) (v := ?_) rfl (by kernel_rfl) (by kernel_rfl) (by kernel_rfl) (fun _ _ _ h => h) (Or.inl ⟨by kernel_rfl, ?_⟩) (by assumption) ?_
  rotate_left
  · (intro w hSw; (try dsimp only at hSw); go_simp); (try with_reducible rfl)
  try simp only [Act.put, List.getElem_toArray, List.getElem_cons_succ, List.getElem_cons_zero, List.setIfInBounds_toArray, List.set_cons_zero, List.set_cons_succ]
  refine wpAnyH_take (i := 60) (v := ?_) rfl (by kernel_rfl) (by kernel_rfl) (by kernel_rfl) (fun _ _ _ h => h) (Or.inl ⟨by kernel_rfl, ?_⟩) (by assumption) ?_
  rotate_left
  · (intro w hSw; (try dsimp only at hSw); go_simp); (try with_reducible rfl)
  try simp only [Act.put, List.getElem_toArray, List.getElem_cons_succ, List.getElem_cons_zero, List.setIfInBounds_toArray, List.set_cons_zero, List.set_cons_succ]
  refine wpAnyH_ready (rs := [59]) (by kernel_rfl) (by simp) ?_
  refine AllReadyH.cons rfl (fun K hK => ?_) ?_
  rotate_left
  · exact AllReadyH.nil
  go_simp
  (have hh := ‹_ ∧ Fit _ ∧ Below _ _ _›; obtain ⟨⟨c0, c1, c2, c3, c4, c5, c6, c7⟩, ft, hb⟩ := hh; refine (K18.out _).mono ?_; rintro e wN ⟨rfl, hBN⟩; have c0 := cell_keep hBN c0; have c1 := cell_keep hBN c1; have c2 := cell_keep hBN c2; have c3 := cell_keep hBN c3; have c4 := cell_keep hBN c4; have c5 := cell_keep hBN c5; have c6 := cell_keep hBN c6; have c7 := cell_keep hBN c7; have ft := ft.below hBN; have hb := hb.trans (hBN.mono hb.size); clear hBN; try simp only [sv])
  refine hK.out _ _ ?_ (fun hHeld => ?_)
  · (try dsimp only); (first | with_reducible assumption | ((repeat' apply And.intro) <;> first | with_reducible assumption | with_reducible exact cell_alloc1 _ (by with_reducible assumption) | exact Fit.drew (by with_reducible assumption) | exact Fit.alloc (by with_reducible assumption) _ | exact Below.drew (by with_reducible assumption) | exact Below.alloc (by with_reducible assumption) (Below.size (by with_reducible assumption)) _ | go_keep))
  clear hK K
  try simp only [Act.put, List.getElem_toArray, List.getElem_cons_succ, List.getElem_cons_zero, List.setIfInBounds_toArray, List.set_cons_zero, List.set_cons_succ]
  refine wpAnyH_ready (rs := [61]) (by kernel_rfl) (by simp) ?_
  refine AllReadyH.cons rfl (fun K hK => ?_) ?_
  rotate_left
  · exact AllReadyH.nil
  go_simp
  (have hh := ‹_ ∧ Fit _ ∧ Below _ _ _›; obtain ⟨⟨c0, c1, c2, c3, c4, c5, c6, c7⟩, ft, hb⟩ := hh; refine (K5.out _).mono ?_; rintro e wN ⟨rfl, hBN⟩; have c0 := cell_keep hBN c0; have c1 := cell_keep hBN c1; have c2 := cell_keep hBN c2; have c3 := cell_keep hBN c3; have c4 := cell_keep hBN c4; have c5 := cell_keep hBN c5; have c6 := cell_keep hBN c6; have c7 := cell_keep hBN c7; have ft := ft.below hBN; have hb := hb.trans (hBN.mono hb.size); clear hBN; try simp only [sv])
  refine hK.out _ _ ?_ (fun hHeld => ?_)
  · (try dsimp only); (first | with_reducible assumption | ((repeat' apply And.intro) <;> first | with_reducible assumption | with_reducible exact cell_alloc1 _ (by with_reducible assumption) | exact Fit.drew (by with_reducible assumption) | exact Fit.alloc (by with_reducible assumption) _ | exact Below.drew (by with_reducible assumption) | exact Below.alloc (by with_reducible assumption) (Below.size (by with_reducible assumption)) _ | go_keep))
  clear hK K
  try simp only [Act.put, List.getElem_toArray, List.getElem_cons_succ, List.getElem_cons_zero, List.setIfInBounds_toArray, List.set_cons_zero, List.set_cons_succ]
  refine wpAnyH_ready (rs := [62]) (by kernel_rfl) (by simp) ?_
  refine AllReadyH.cons rfl (fun K hK => ?_) ?_
  rotate_left
  · exact AllReadyH.nil
  go_simp
  (have hh := ‹_ ∧ Fit _ ∧ Below _ _ _›; obtain ⟨⟨c0, c1, c2, c3, c4, c5, c6, c7⟩, ft, hb⟩ := hh; refine (K19.out _).mono ?_; rintro e wN ⟨rfl, hBN⟩; have c0 := cell_keep hBN c0; have c1 := cell_keep hBN c1; have c2 := cell_keep hBN c2; have c3 := cell_keep hBN c3; have c4 := cell_keep hBN c4; have c5 := cell_keep hBN c5; have c6 := cell_keep hBN c6; have c7 := cell_keep hBN c7; have ft := ft.below hBN; have hb := hb.trans (hBN.mono hb.size); clear hBN; try simp only [sv])
  refine hK.out _ _ ?_ (fun hHeld => ?_)
  · (try dsimp only); (first | with_reducible assumption | ((repeat' apply And.intro) <;> first | with_reducible assumption | with_reducible exact cell_alloc1 _ (by with_reducible assumption) | exact Fit.drew (by with_reducible assumption) | exact Fit.alloc (by with_reducible assumption) _ | exact Below.drew (by with_reducible assumption) | exact Below.alloc (by with_reducible assumption) (Below.size (by with_reducible assumption)) _ | go_keep))
  clear hK K
  try simp only [Act.put, List.getElem_toArray, List.getElem_cons_succ, List.getElem_cons_zero, List.setIfInBounds_toArray, List.set_cons_zero, List.set_cons_succ]
  refine wpAnyH_take (i := 63) (v := ?_) rfl (by kernel_rfl) (by kernel_rfl) (by kernel_rfl) (fun _ _ _ h => h) (Or.inl ⟨by kernel_rfl, ?_⟩) (by assumption) ?_
  rotate_left
  · (intro w hSw; (try dsimp only at hSw); go_simp); (try with_reducible rfl)
  try simp only [Act.put, List.getElem_toArray, List.getElem_cons_succ, List.getElem_cons_zero, List.setIfInBounds_toArray, List.set_cons_zero, List.set_cons_succ]
  refine wpAnyH_take (i := 64) (v := ?_) rfl (by kernel_rfl) (by kernel_rfl) (by kernel_rfl) (fun _ _ _ h => h) (Or.inl ⟨by kernel_rfl, ?_⟩) (by assumption) ?_
  rotate_left
  · (intro w hSw; (try dsimp only at hSw); go_simp); (try with_reducible rfl)
  try simp only [Act.put, List.getElem_toArray, List.getElem_cons_succ, List.getElem_cons_zero, List.setIfInBounds_toArray, List.set_cons_zero, List.set_cons_succ]
  refine wpAnyH_take (i := 65) (v := ?_) rfl (by kernel_rfl) (by kernel_rfl) (by kernel_rfl) (fun _ _ _ h => h) (Or.inl ⟨by kernel_rfl, ?_⟩) (by assumption) ?_
  rotate_left
  · (intro w hSw; (try dsimp only at hSw); go_simp); (try with_reducible rfl)
  try simp only [Act.put, List.getElem_toArray, List.getElem_cons_succ, List.getElem_cons_zero, List.setIfInBounds_toArray, List.set_cons_zero, List.set_cons_succ]
  refine wpAnyH_take (i := 66) (v := ?_) rfl (by kernel_rfl) (by kernel_rfl) (by kernel_rfl) (fun _ _ _ h => h) (Or.inl ⟨by kernel_rfl, ?_⟩) (by assumption) ?_
  rotate_left
  · (intro w hSw; (try dsimp only at hSw); go_simp); (try with_reducible rfl)
  try simp only [Act.put, List.getElem_toArray, List.getElem_cons_succ, List.getElem_cons_zero, List.setIfInBounds_toArray, List.set_cons_zero, List.set_cons_succ]
  refine wpAnyH_take (i := 68) (v := ?_) rfl (by kernel_rfl) (by kernel_rfl) (by kernel_rfl) (fun _ _ _ h => h) (Or.inl ⟨by kernel_rfl, ?_⟩) (by assumption) ?_
  rotate_left
  · (intro w hSw; (try dsimp only at hSw); go_simp); (try with_reducible rfl)
  try simp only [Act.put, List.getElem_toArray, List.getElem_cons_succ, List.getElem_cons_zero, List.setIfInBounds_toArray, List.set_cons_zero, List.set_cons_succ]
  refine wpAnyH_ready (rs := [67]) (by kernel_rfl) (by simp) ?_
  refine AllReadyH.cons rfl (fun K hK => ?_) ?_
  rotate_left
  · exact AllReadyH.nil
  go_simp
  (have hh := ‹_ ∧ Fit _ ∧ Below _ _ _›; obtain ⟨⟨c0, c1, c2, c3, c4, c5, c6, c7⟩, ft, hb⟩ := hh; refine (K20.out _ ft).mono ?_; rintro e wN ⟨rfl, hBN⟩; have c0 := cell_keep hBN c0; have c1 := cell_keep hBN c1; have c2 := cell_keep hBN c2; have c3 := cell_keep hBN c3; have c4 := cell_keep hBN c4; have c5 := cell_keep hBN c5; have c6 := cell_keep hBN c6; have c7 := cell_keep hBN c7; have ft := ft.below hBN; have hb := hb.trans (hBN.mono hb.size); clear hBN; try simp only [sv])
  refine hK.out _ _ ?_ (fun hHeld => ?_)
  · (try dsimp only); (first | with_reducible assumption | ((repeat' apply And.intro) <;> first | with_reducible assumption | with_reducible exact cell_alloc1 _ (by with_reducible assumption) | exact Fit.drew (by with_reducible assumption) | exact Fit.alloc (by with_reducible assumption) _ | exact Below.drew (by with_reducible assumption) | exact Below.alloc (by with_reducible assumption) (Below.size (by with_reducible assumption)) _ | go_keep))
  clear hK K
  try simp only [Act.put, List.getElem_toArray, List.getElem_cons_succ, List.getElem_cons_zero, List.setIfInBounds_toArray, List.set_cons_zero, List.set_cons_succ]
  refine wpAnyH_ready (rs := [69]) (by kernel_rfl) (by simp) ?_
  refine AllReadyH.cons rfl (fun K hK => ?_) ?_
  rotate_left
  · exact AllReadyH.nil
  go_simp
  (have hh := ‹_ ∧ Fit _ ∧ Below _ _ _›; obtain ⟨⟨c0, c1, c2, c3, c4, c5, c6, c7⟩, ft, hb⟩ := hh; refine (K5.out _).mono ?_; rintro e wN ⟨rfl, hBN⟩; have c0 := cell_keep hBN c0; have c1 := cell_keep hBN c1; have c2 := cell_keep hBN c2; have c3 := cell_keep hBN c3; have c4 := cell_keep hBN c4; have c5 := cell_keep hBN c5; have c6 := cell_keep hBN c6; have c7 := cell_keep hBN c7; have ft := ft.below hBN; have hb := hb.trans (hBN.mono hb.size); clear hBN; try simp only [sv])
  refine hK.out _ _ ?_ (fun hHeld => ?_)
  · (try dsimp only); (first | with_reducible assumption | ((repeat' apply And.intro) <;> first | with_reducible assumption | with_reducible exact cell_alloc1 _ (by with_reducible assumption) | exact Fit.drew (by with_reducible assumption) | exact Fit.alloc (by with_reducible assumption) _ | exact Below.drew (by with_reducible assumption) | exact Below.alloc (by with_reducible assumption) (Below.size (by with_reducible assumption)) _ | go_keep))
  clear hK K
  try simp only [Act.put, List.getElem_toArray, List.getElem_cons_succ, List.getElem_cons_zero, List.setIfInBounds_toArray, List.set_cons_zero, List.set_cons_succ]
  refine wpAnyH_ready (rs := [70]) (by kernel_rfl) (by simp) ?_
  refine AllReadyH.cons rfl (fun K hK => ?_) ?_
  rotate_left
  · exact AllReadyH.nil
  go_simp
  (have hh := ‹_ ∧ Fit _ ∧ Below _ _ _›; obtain ⟨⟨c0, c1, c2, c3, c4, c5, c6, c7⟩, ft, hb⟩ := hh; refine (K21.out _).mono ?_; rintro e wN ⟨rfl, hBN⟩; have c0 := cell_keep hBN c0; have c1 := cell_keep hBN c1; have c2 := cell_keep hBN c2; have c3 := cell_keep hBN c3; have c4 := cell_keep hBN c4; have c5 := cell_keep hBN c5; have c6 := cell_keep hBN c6; have c7 := cell_keep hBN c7; have ft := ft.below hBN; have hb := hb.trans (hBN.mono hb.size); clear hBN; try simp only [sv])
  refine hK.out _ _ ?_ (fun hHeld => ?_)
  · (try dsimp only); (first | with_reducible assumption | ((repeat' apply And.intro) <;> first | with_reducible assumption | with_reducible exact cell_alloc1 _ (by with_reducible assumption) | exact Fit.drew (by with_reducible assumption) | exact Fit.alloc (by with_reducible assumption) _ | exact Below.drew (by with_reducible assumption) | exact Below.alloc (by with_reducible assumption) (Below.size (by with_reducible assumption)) _ | go_keep))
  clear hK K
  try simp only [Act.put, List.getElem_toArray, List.getElem_cons_succ, List.getElem_cons_zero, List.setIfInBounds_toArray, List.set_cons_zero, List.set_cons_succ]
  refine wpAnyH_take (i := 71) (v := ?_) rfl (by kernel_rfl) (by kernel_rfl) (by kernel_rfl) (fun _ _ _ h => h) (Or.inl ⟨by kernel_rfl, ?_⟩) (by assumption) ?_
  rotate_left
  · (intro w hSw; (try dsimp only at hSw); go_simp); (try with_reducible rfl)
  try simp only [Act.put, List.getElem_toArray, List.getElem_cons_succ, List.getElem_cons_zero, List.setIfInBounds_toArray, List.set_cons_zero, List.set_cons_succ]
  refine wpAnyH_take (i := 72) (v := ?_) rfl (by kernel_rfl) (by kernel_rfl) (by kernel_rfl) (fun _ _ _ h => h) (Or.inl ⟨by kernel_rfl, ?_⟩) (by assumption) ?_
  rotate_left
  · (intro w hSw; (try dsimp only at hSw); go_simp); (try with_reducible rfl)
  try simp only [Act.put, List.getElem_toArray, List.getElem_cons_succ, List.getElem_cons_zero, List.setIfInBounds_toArray, List.set_cons_zero, List.set_cons_succ]
  refine wpAnyH_take (i := 73) (v := ?_) rfl (by kernel_rfl) (by kernel_rfl) (by kernel_rfl) (fun _ _ _ h => h) (Or.inl ⟨by kernel_rfl, ?_⟩) (by assumption) ?_
  rotate_left
  · (intro w hSw; (try dsimp only at hSw); go_simp); (try with_reducible rfl)
  try simp only [Act.put, List.getElem_toArray, List.getElem_cons_succ, List.getElem_cons_zero, List.setIfInBounds_toArray, List.set_cons_zero, List.set_cons_succ]
  refine wpAnyH_take (i := 75) (v := ?_) rfl (by kernel_rfl) (by kernel_rfl) (by kernel_rfl) (fun _ _ _ h => h) (Or.inl ⟨by kernel_rfl, ?_⟩) (by assumption) ?_
  rotate_left
  · (intro w hSw; (try dsimp only at hSw); go_simp); (try with_reducible rfl)
  try simp only [Act.put, List.getElem_toArray, List.getElem_cons_succ, List.getElem_cons_zero, List.setIfInBounds_toArray, List.set_cons_zero, List.set_cons_succ]
  refine wpAnyH_ready (rs := [74]) (by kernel_rfl) (by simp) ?_
  refine AllReadyH.cons rfl (fun K hK => ?_) ?_
  rotate_left
  · exact AllReadyH.nil
  go_simp
  (have hh := ‹_ ∧ Fit _ ∧ Below _ _ _›; obtain ⟨⟨c0, c1, c2, c3, c4, c5, c6, c7⟩, ft, hb⟩ := hh; refine (K22.out _).mono ?_; rintro e wN ⟨rfl, hBN⟩; have c0 := cell_keep hBN c0; have c1 := cell_keep hBN c1; have c2 := cell_keep hBN c2; have c3 := cell_keep hBN c3; have c4 := cell_keep hBN c4; have c5 := cell_keep hBN c5; have c6 := cell_keep hBN c6; have c7 := cell_keep hBN c7; have ft := ft.below hBN; have hb := hb.trans (hBN.mono hb.size); clear hBN; try simp only [sv])
  refine hK.out _ _ ?_ (fun hHeld => ?_)
  · (try dsimp only); (first | with_reducible assumption | ((repeat' apply And.intro) <;> first | with_reducible assumption | with_reducible exact cell_alloc1 _ (by with_reducible assumption) | exact Fit.drew (by with_reducible assumption) | exact Fit.alloc (by with_reducible assumption) _ | exact Below.drew (by with_reducible assumption) | exact Below.alloc (by with_reducible assumption) (Below.size (by with_reducible assumption)) _ | go_keep))
  clear hK K
  try simp only [Act.put, List.getElem_toArray, List.getElem_cons_succ, List.getElem_cons_zero, List.setIfInBounds_toArray, List.set_cons_zero, List.set_cons_succ]
  refine wpAnyH_take (i := 76) (v := ?_) rfl (by kernel_rfl) (by kernel_rfl) (by kernel_rfl) (fun _ _ _ h => h) (Or.inl ⟨by kernel_rfl, ?_⟩) (by assumption) ?_
  rotate_left
  · (intro w hSw; (try dsimp only at hSw); go_simp); (try with_reducible rfl)
  try simp only [Act.put, List.getElem_toArray, List.getElem_cons_succ, List.getElem_cons_zero, List.setIfInBounds_toArray, List.set_cons_zero, List.set_cons_succ]
  refine wpAnyH_take (i := 77) (v := ?_) rfl (by kernel_rfl) (by kernel_rfl) (by kernel_rfl) (fun _ _ _ h => h) (Or.inl ⟨by kernel_rfl, ?_⟩) (by assumption) ?_
  rotate_left
  · (intro w hSw; (try dsimp only at hSw); go_simp); (try with_reducible rfl)
  try simp only [Act.put, List.getElem_toArray, List.getElem_cons_succ, List.getElem_cons_zero, List.setIfInBounds_toArray, List.set_cons_zero, List.set_cons_succ]
  refine wpAnyH_take (i := 78) (v := ?_) rfl (by kernel_rfl) (by kernel_rfl) (by kernel_rfl) (fun _ _ _ h => h) (Or.inl ⟨by kernel_rfl, ?_⟩) (by assumption) ?_
  rotate_left
  · (intro w hSw; (try dsimp only at hSw); go_simp); (try with_reducible rfl)
  try simp only [Act.put, List.getElem_toArray, List.getElem_cons_succ, List.getElem_cons_zero, List.setIfInBounds_toArray, List.set_cons_zero, List.set_cons_succ]
  refine wpAnyH_done (by kernel_rfl) ?_ _
  refine NoPanic.normal ?_
  go_wp2
  go_ret
  exact ⟨rfl, by with_reducible assumption⟩

end Go.Proofs.YtblogejljilcdaaDoor
