/- SetFolds: the walk. -/
import Derived.Test.YtdcekdjpbkchmaaDoorSetS
import Derived.Test.YtdcekdjpbkchmaaDoorSetQ
import Derived.Deep.RegionHeld3
namespace Go.Proofs.YtdcekdjpbkchmaaDoor
open Go.RowKit
set_option linter.unusedVariables false
set_option linter.unusedSimpArgs false

theorem Fit.drew {w : World} (h : Fit w) : Fit w.drew := ⟨h.tab, h.pos⟩

set_option maxHeartbeats 100000000 in
theorem folds_no1 (b : Nat) (hb : b < 256) (s f : Nat → Bool) (h3 : ¬ 65 ≤ b)
    (hf : ∀ w, Fit w → Calls Tryd.prog 21 #[sv s] w fun e w' => e = .returned (sv f) ∧ Below w.heap.size w w')
    (hff : ∀ w, Fit w → Calls Tryd.prog 21 #[sv f] w fun e w' => e = .returned (sv f) ∧ Below w.heap.size w w')
    (ho : ∀ (B cap : Nat) w, w.heap[B]? = some (.cells #[.int .u64 (wd s 0), .int .u64 (wd s 1), .int .u64 (wd s 2), .int .u64 (wd s 3), .int .u64 (wd f 0), .int .u64 (wd f 1), .int .u64 (wd f 2), .int .u64 (wd f 3)] 24 (0, 0)) → Calls Tryd.prog 17 #[.slice (some ⟨B, 0, none⟩) 2 cap] w fun e w' => e = .returned (sv f) ∧ Below w.heap.size w w')
    (w : World) (hw : Fit w) :
    Calls Tryd.prog 6 #[sv s, .int .u8 b] w fun e w' => e = .returned (.bool true) ∧ Below w.heap.size w w' := by
  have HF := Lib.hid hf; have HFF := Lib.hid hff; have HO := Lib.hid ho; have HX := Lib.hid (fun w hw => shown_c w hw)
  clear hf hff ho
  unfold sv
  go_enter Tryd.func6, Tryd.ntmps6
  go_wp2_with fail
  have S0 := Four.new w 24 (.int .u64 (wd s 0)) (.int .u64 (wd s 1)) (.int .u64 (wd s 2)) (.int .u64 (wd s 3))
  have f0 := hw.alloc (.cells #[.int .u64 (wd s 0), .int .u64 (wd s 1), .int .u64 (wd s 2), .int .u64 (wd s 3)] 24)
  have b0 : Below w.heap.size w (w.alloc (.cells #[.int .u64 (wd s 0), .int .u64 (wd s 1), .int .u64 (wd s 2), .int .u64 (wd s 3)] 24)) := (Below.refl _ w).alloc (Nat.le_refl _) _
  refine (HF.out _ f0).mono ?_
  rintro e w1 ⟨rfl, hB1⟩
  have S1 := S0.below hB1 S0.lt
  have hlt := S1.lt
  have f1 := f0.below hB1
  have b1 := b0.trans (hB1.mono b0.size)
  have F1 := Four.new w1 24 (.int .u64 (wd f 0)) (.int .u64 (wd f 1)) (.int .u64 (wd f 2)) (.int .u64 (wd f 3))
  have S1' := S1.alloc (.cells #[.int .u64 (wd f 0), .int .u64 (wd f 1), .int .u64 (wd f 2), .int .u64 (wd f 3)] 24)
  have f1' := f1.alloc (.cells #[.int .u64 (wd f 0), .int .u64 (wd f 1), .int .u64 (wd f 2), .int .u64 (wd f 3)] 24)
  have b1' : Below w.heap.size w (w1.alloc (.cells #[.int .u64 (wd f 0), .int .u64 (wd f 1), .int .u64 (wd f 2), .int .u64 (wd f 3)] 24)) := b1.alloc b1.size _
  clear S0 f0 b0 hB1 f1 b1
  simp only [sv]
  go_wp2_with fail
  have S1dc0 := S1'.c0; have S1dc1 := S1'.c1; have S1dc2 := S1'.c2; have S1dc3 := S1'.c3
  have F1c0 := F1.c0; have F1c1 := F1.c1; have F1c2 := F1.c2; have F1c3 := F1.c3
  have hqf := eq_set f
  refine wp_region_noPanic ?_
  refine wp_region_held_drew (S := fun w' => (w'.cell? ⟨w.heap.size, 0, none⟩ = some (.int .u64 (wd s 0)) ∧ w'.cell? ⟨w.heap.size, 1, none⟩ = some (.int .u64 (wd s 1)) ∧ w'.cell? ⟨w.heap.size, 2, none⟩ = some (.int .u64 (wd s 2)) ∧ w'.cell? ⟨w.heap.size, 3, none⟩ = some (.int .u64 (wd s 3)) ∧ w'.cell? ⟨w1.heap.size, 0, none⟩ = some (.int .u64 (wd f 0)) ∧ w'.cell? ⟨w1.heap.size, 1, none⟩ = some (.int .u64 (wd f 1)) ∧ w'.cell? ⟨w1.heap.size, 2, none⟩ = some (.int .u64 (wd f 2)) ∧ w'.cell? ⟨w1.heap.size, 3, none⟩ = some (.int .u64 (wd f 3))) ∧ Fit w' ∧ Below w.heap.size w w') (by kernel_rfl) ?_ (fun hHeld => ?_)
  · (try dsimp only); (first | with_reducible assumption | ((repeat' apply And.intro) <;> first | with_reducible assumption | with_reducible exact cell_alloc1 _ (by with_reducible assumption) | exact Fit.drew (by with_reducible assumption) | exact Fit.alloc (by with_reducible assumption) _ | exact Below.drew (by with_reducible assumption) | exact Below.alloc (by with_reducible assumption) (Below.size (by with_reducible assumption)) _ | go_keep))
  refine wpAnyH_take (i := 0) (v := ?_) rfl (by kernel_rfl) (by kernel_rfl) (by kernel_rfl) (fun _ _ _ h => h) (Or.inl ⟨by kernel_rfl, ?_⟩) (by assumption) ?_
  rotate_left
  · (intro w hSw; (try dsimp only at hSw); go_simp); (try with_reducible rfl)
  try simp only [Act.put, List.getElem_toArray, List.getElem_cons_succ, List.getElem_cons_zero, List.setIfInBounds_toArray, List.set_cons_zero, List.set_cons_succ]
  refine wpAnyH_take (i := 2) (v := ?_) rfl (by kernel_rfl) (by kernel_rfl) (by kernel_rfl) (fun _ _ _ h => h) (Or.inl ⟨by kernel_rfl, ?_⟩) (by assumption) ?_
  rotate_left
  · (intro w hSw; (try dsimp only at hSw); go_simp); (try with_reducible rfl)
  try simp only [Act.put, List.getElem_toArray, List.getElem_cons_succ, List.getElem_cons_zero, List.setIfInBounds_toArray, List.set_cons_zero, List.set_cons_succ]
  refine wpAnyH_ready (rs := [1]) (by kernel_rfl) (by simp) ?_
  refine AllReadyH.cons rfl (fun K hK => ?_) ?_
  rotate_left
  · exact AllReadyH.nil
  go_simp
  (have hh := ‹_ ∧ Fit _ ∧ Below _ _ _›; obtain ⟨⟨c0, c1, c2, c3, c4, c5, c6, c7⟩, ft, hb⟩ := hh; refine (HFF.out _ ft).mono ?_; rintro e wN ⟨rfl, hBN⟩; have c0 := cell_keep hBN c0; have c1 := cell_keep hBN c1; have c2 := cell_keep hBN c2; have c3 := cell_keep hBN c3; have c4 := cell_keep hBN c4; have c5 := cell_keep hBN c5; have c6 := cell_keep hBN c6; have c7 := cell_keep hBN c7; have ft := ft.below hBN; have hb := hb.trans (hBN.mono hb.size); clear hBN; try simp only [sv])
  refine hK.out _ _ ?_ (fun hHeld => ?_)
  · (try dsimp only); (first | with_reducible assumption | ((repeat' apply And.intro) <;> first | with_reducible assumption | with_reducible exact cell_alloc1 _ (by with_reducible assumption) | exact Fit.drew (by with_reducible assumption) | exact Fit.alloc (by with_reducible assumption) _ | exact Below.drew (by with_reducible assumption) | exact Below.alloc (by with_reducible assumption) (Below.size (by with_reducible assumption)) _ | go_keep))
  clear hK K
  try simp only [Act.put, List.getElem_toArray, List.getElem_cons_succ, List.getElem_cons_zero, List.setIfInBounds_toArray, List.set_cons_zero, List.set_cons_succ]
  refine wpAnyH_take (i := 3) (v := ?_) rfl (by kernel_rfl) (by kernel_rfl) (by kernel_rfl) (fun _ _ _ h => h) (Or.inl ⟨by kernel_rfl, ?_⟩) (by assumption) ?_
  rotate_left
  · (intro w hSw; (try dsimp only at hSw); go_simp); (try with_reducible rfl)
  try simp only [Act.put, List.getElem_toArray, List.getElem_cons_succ, List.getElem_cons_zero, List.setIfInBounds_toArray, List.set_cons_zero, List.set_cons_succ]
  refine wpAnyH_take (i := 4) (v := ?_) rfl (by kernel_rfl) (by kernel_rfl) (by kernel_rfl) (fun _ _ _ h => h) (Or.inl ⟨by kernel_rfl, ?_⟩) (by assumption) ?_
  rotate_left
  · (intro w hSw; (try dsimp only at hSw); go_simp); (try with_reducible rfl)
  try simp only [Act.put, List.getElem_toArray, List.getElem_cons_succ, List.getElem_cons_zero, List.setIfInBounds_toArray, List.set_cons_zero, List.set_cons_succ]
  refine wpAnyH_take (i := 5) (v := ?_) rfl (by kernel_rfl) (by kernel_rfl) (by kernel_rfl) (fun _ _ _ h => h) (Or.inl ⟨by kernel_rfl, ?_⟩) (by assumption) ?_
  rotate_left
  · (intro w hSw; (try dsimp only at hSw); go_simp); (try with_reducible rfl)
  try simp only [Act.put, List.getElem_toArray, List.getElem_cons_succ, List.getElem_cons_zero, List.setIfInBounds_toArray, List.set_cons_zero, List.set_cons_succ]
  refine wpAnyH_take (i := 6) (v := ?_) rfl (by kernel_rfl) (by kernel_rfl) (by kernel_rfl) (fun _ _ _ h => h) (Or.inl ⟨by kernel_rfl, ?_⟩) (by assumption) ?_
  rotate_left
  · (intro w hSw; (try dsimp only at hSw); go_simp); (try with_reducible rfl)
  try simp only [Act.put, List.getElem_toArray, List.getElem_cons_succ, List.getElem_cons_zero, List.setIfInBounds_toArray, List.set_cons_zero, List.set_cons_succ]
  refine wpAnyH_take (i := 9) (v := ?_) rfl (by kernel_rfl) (by kernel_rfl) (by kernel_rfl) (fun _ _ _ h => h) (Or.inl ⟨by kernel_rfl, ?_⟩) (by assumption) ?_
  rotate_left
  · (intro w hSw; (try dsimp only at hSw); go_simp); (try with_reducible rfl)
  try simp only [Act.put, List.getElem_toArray, List.getElem_cons_succ, List.getElem_cons_zero, List.setIfInBounds_toArray, List.set_cons_zero, List.set_cons_succ]
  refine wpAnyH_ready (rs := [7]) (by kernel_rfl) (by simp) ?_
  refine AllReadyH.cons rfl (fun K hK => ?_) ?_
  rotate_left
  · exact AllReadyH.nil
  go_simp
  refine hK.out _ _ ?_ (fun hHeld => ?_)
  · (try dsimp only); (first | with_reducible assumption | ((repeat' apply And.intro) <;> first | with_reducible assumption | with_reducible exact cell_alloc1 _ (by with_reducible assumption) | exact Fit.drew (by with_reducible assumption) | exact Fit.alloc (by with_reducible assumption) _ | exact Below.drew (by with_reducible assumption) | exact Below.alloc (by with_reducible assumption) (Below.size (by with_reducible assumption)) _ | go_keep))
  clear hK K
  try simp only [Act.put, List.getElem_toArray, List.getElem_cons_succ, List.getElem_cons_zero, List.setIfInBounds_toArray, List.set_cons_zero, List.set_cons_succ]
  refine wpAnyH_ready (rs := [8]) (by kernel_rfl) (by simp) ?_
  refine AllReadyH.cons rfl (fun K hK => ?_) ?_
  rotate_left
  · exact AllReadyH.nil
  go_simp
  (have hh := ‹_ ∧ Fit _ ∧ Below _ _ _›; obtain ⟨⟨c0, c1, c2, c3, c4, c5, c6, c7⟩, ft, hb⟩ := hh; refine (HO.out _ _ _ (by first | exact heap_new _ _ | (have := heap_new wN (.cells #[.int .u64 (wd s 0), .int .u64 (wd s 1), .int .u64 (wd s 2), .int .u64 (wd s 3), .int .u64 (wd f 0), .int .u64 (wd f 1), .int .u64 (wd f 2), .int .u64 (wd f 3)] 24); simpa using this))).mono ?_; rintro e wN ⟨rfl, hBN⟩; have c0 := cell_keep hBN c0; have c1 := cell_keep hBN c1; have c2 := cell_keep hBN c2; have c3 := cell_keep hBN c3; have c4 := cell_keep hBN c4; have c5 := cell_keep hBN c5; have c6 := cell_keep hBN c6; have c7 := cell_keep hBN c7; have ft := ft.below hBN; have hb := hb.trans (hBN.mono hb.size); clear hBN; try simp only [sv])
  refine hK.out _ _ ?_ (fun hHeld => ?_)
  · (try dsimp only); (first | with_reducible assumption | ((repeat' apply And.intro) <;> first | with_reducible assumption | with_reducible exact cell_alloc1 _ (by with_reducible assumption) | exact Fit.drew (by with_reducible assumption) | exact Fit.alloc (by with_reducible assumption) _ | exact Below.drew (by with_reducible assumption) | exact Below.alloc (by with_reducible assumption) (Below.size (by with_reducible assumption)) _ | go_keep))
  clear hK K
  try simp only [Act.put, List.getElem_toArray, List.getElem_cons_succ, List.getElem_cons_zero, List.setIfInBounds_toArray, List.set_cons_zero, List.set_cons_succ]
  refine wpAnyH_take (i := 10) (v := ?_) rfl (by kernel_rfl) (by kernel_rfl) (by kernel_rfl) (fun _ _ _ h => h) (Or.inl ⟨by kernel_rfl, ?_⟩) (by assumption) ?_
  rotate_left
  · (intro w hSw; (try dsimp only at hSw); go_simp); (try with_reducible rfl)
  try simp only [Act.put, List.getElem_toArray, List.getElem_cons_succ, List.getElem_cons_zero, List.setIfInBounds_toArray, List.set_cons_zero, List.set_cons_succ]
  refine wpAnyH_take (i := 11) (v := ?_) rfl (by kernel_rfl) (by kernel_rfl) (by kernel_rfl) (fun _ _ _ h => h) (Or.inl ⟨by kernel_rfl, ?_⟩) (by assumption) ?_
  rotate_left
  · (intro w hSw; (try dsimp only at hSw); go_simp); (try with_reducible rfl)
  try simp only [Act.put, List.getElem_toArray, List.getElem_cons_succ, List.getElem_cons_zero, List.setIfInBounds_toArray, List.set_cons_zero, List.set_cons_succ]
  refine wpAnyH_take (i := 12) (v := ?_) rfl (by kernel_rfl) (by kernel_rfl) (by kernel_rfl) (fun _ _ _ h => h) (Or.inl ⟨by kernel_rfl, ?_⟩) (by assumption) ?_
  rotate_left
  · (intro w hSw; (try dsimp only at hSw); go_simp); (try with_reducible rfl)
  try simp only [Act.put, List.getElem_toArray, List.getElem_cons_succ, List.getElem_cons_zero, List.setIfInBounds_toArray, List.set_cons_zero, List.set_cons_succ]
  refine wpAnyH_take (i := 13) (v := ?_) rfl (by kernel_rfl) (by kernel_rfl) (by kernel_rfl) (fun _ _ _ h => h) (Or.inl ⟨by kernel_rfl, ?_⟩) (by assumption) ?_
  rotate_left
  · (intro w hSw; (try dsimp only at hSw); go_simp); (try with_reducible rfl)
  try simp only [Act.put, List.getElem_toArray, List.getElem_cons_succ, List.getElem_cons_zero, List.setIfInBounds_toArray, List.set_cons_zero, List.set_cons_succ]
  refine wpAnyH_take (i := 14) (v := ?_) rfl (by kernel_rfl) (by kernel_rfl) (by kernel_rfl) (fun _ _ _ h => h) (Or.inl ⟨by kernel_rfl, ?_⟩) (by assumption) ?_
  rotate_left
  · (intro w hSw; (try dsimp only at hSw); go_simp); (try with_reducible rfl)
  try simp only [Act.put, List.getElem_toArray, List.getElem_cons_succ, List.getElem_cons_zero, List.setIfInBounds_toArray, List.set_cons_zero, List.set_cons_succ]
  refine wpAnyH_take (i := 15) (v := ?_) rfl (by kernel_rfl) (by kernel_rfl) (by kernel_rfl) (fun _ _ _ h => h) (Or.inl ⟨by kernel_rfl, ?_⟩) (by assumption) ?_
  rotate_left
  · (intro w hSw; (try dsimp only at hSw); go_simp); (try with_reducible rfl)
  try simp only [Act.put, List.getElem_toArray, List.getElem_cons_succ, List.getElem_cons_zero, List.setIfInBounds_toArray, List.set_cons_zero, List.set_cons_succ]
  refine wpAnyH_take (i := 16) (v := undef) rfl (by kernel_rfl) (by kernel_rfl) (by kernel_rfl) (fun _ _ _ h => h) (Or.inr ⟨by kernel_rfl, rfl⟩) (by assumption) ?_
  try simp only [Act.put, List.getElem_toArray, List.getElem_cons_succ, List.getElem_cons_zero, List.setIfInBounds_toArray, List.set_cons_zero, List.set_cons_succ]
  refine wpAnyH_take (i := 17) (v := undef) rfl (by kernel_rfl) (by kernel_rfl) (by kernel_rfl) (fun _ _ _ h => h) (Or.inr ⟨by kernel_rfl, rfl⟩) (by assumption) ?_
  try simp only [Act.put, List.getElem_toArray, List.getElem_cons_succ, List.getElem_cons_zero, List.setIfInBounds_toArray, List.set_cons_zero, List.set_cons_succ]
  refine wpAnyH_take (i := 19) (v := undef) rfl (by kernel_rfl) (by kernel_rfl) (by kernel_rfl) (fun _ _ _ h => h) (Or.inr ⟨by kernel_rfl, rfl⟩) (by assumption) ?_
  try simp only [Act.put, List.getElem_toArray, List.getElem_cons_succ, List.getElem_cons_zero, List.setIfInBounds_toArray, List.set_cons_zero, List.set_cons_succ]
  refine wpAnyH_take (i := 20) (v := undef) rfl (by kernel_rfl) (by kernel_rfl) (by kernel_rfl) (fun _ _ _ h => h) (Or.inr ⟨by kernel_rfl, rfl⟩) (by assumption) ?_
  try simp only [Act.put, List.getElem_toArray, List.getElem_cons_succ, List.getElem_cons_zero, List.setIfInBounds_toArray, List.set_cons_zero, List.set_cons_succ]
  refine wpAnyH_take (i := 18) (v := undef) rfl (by kernel_rfl) (by kernel_rfl) (by kernel_rfl) (fun _ _ _ h => h) (Or.inr ⟨by kernel_rfl, rfl⟩) (by assumption) ?_
  try simp only [Act.put, List.getElem_toArray, List.getElem_cons_succ, List.getElem_cons_zero, List.setIfInBounds_toArray, List.set_cons_zero, List.set_cons_succ]
  refine wpAnyH_take (i := 21) (v := undef) rfl (by kernel_rfl) (by kernel_rfl) (by kernel_rfl) (fun _ _ _ h => h) (Or.inr ⟨by kernel_rfl, rfl⟩) (by assumption) ?_
  try simp only [Act.put, List.getElem_toArray, List.getElem_cons_succ, List.getElem_cons_zero, List.setIfInBounds_toArray, List.set_cons_zero, List.set_cons_succ]
  refine wpAnyH_take (i := 22) (v := undef) rfl (by kernel_rfl) (by kernel_rfl) (by kernel_rfl) (fun _ _ _ h => h) (Or.inr ⟨by kernel_rfl, rfl⟩) (by assumption) ?_
  try simp only [Act.put, List.getElem_toArray, List.getElem_cons_succ, List.getElem_cons_zero, List.setIfInBounds_toArray, List.set_cons_zero, List.set_cons_succ]
  refine wpAnyH_take (i := 23) (v := undef) rfl (by kernel_rfl) (by kernel_rfl) (by kernel_rfl) (fun _ _ _ h => h) (Or.inr ⟨by kernel_rfl, rfl⟩) (by assumption) ?_
  try simp only [Act.put, List.getElem_toArray, List.getElem_cons_succ, List.getElem_cons_zero, List.setIfInBounds_toArray, List.set_cons_zero, List.set_cons_succ]
  refine wpAnyH_take (i := 24) (v := ?_) rfl (by kernel_rfl) (by kernel_rfl) (by kernel_rfl) (fun _ _ _ h => h) (Or.inl ⟨by kernel_rfl, ?_⟩) (by assumption) ?_
  rotate_left
  · (intro w hSw; (try dsimp only at hSw); go_simp); (try with_reducible rfl)
  try simp only [Act.put, List.getElem_toArray, List.getElem_cons_succ, List.getElem_cons_zero, List.setIfInBounds_toArray, List.set_cons_zero, List.set_cons_succ]
  refine wpAnyH_take (i := 25) (v := ?_) rfl (by kernel_rfl) (by kernel_rfl) (by kernel_rfl) (fun _ _ _ h => h) (Or.inl ⟨by kernel_rfl, ?_⟩) (by assumption) ?_
  rotate_left
  · (intro w hSw; (try dsimp only at hSw); go_simp); (try with_reducible rfl)
  try simp only [Act.put, List.getElem_toArray, List.getElem_cons_succ, List.getElem_cons_zero, List.setIfInBounds_toArray, List.set_cons_zero, List.set_cons_succ]
  refine wpAnyH_take (i := 26) (v := ?_) rfl (by kernel_rfl) (by kernel_rfl) (by kernel_rfl) (fun _ _ _ h => h) (Or.inl ⟨by kernel_rfl, ?_⟩) (by assumption) ?_
  rotate_left
  · (intro w hSw; (try dsimp only at hSw); go_simp); (try with_reducible rfl)
  try simp only [Act.put, List.getElem_toArray, List.getElem_cons_succ, List.getElem_cons_zero, List.setIfInBounds_toArray, List.set_cons_zero, List.set_cons_succ]
  refine wpAnyH_ready (rs := [27]) (by kernel_rfl) (by simp) ?_
  refine AllReadyH.cons rfl (fun K hK => ?_) ?_
  rotate_left
  · exact AllReadyH.nil
  go_simp
  (have hh := ‹_ ∧ Fit _ ∧ Below _ _ _›; obtain ⟨⟨c0, c1, c2, c3, c4, c5, c6, c7⟩, ft, hb⟩ := hh; refine (HX.out _ ft).mono ?_; rintro e wN ⟨rfl, hBN⟩; have c0 := cell_keep hBN c0; have c1 := cell_keep hBN c1; have c2 := cell_keep hBN c2; have c3 := cell_keep hBN c3; have c4 := cell_keep hBN c4; have c5 := cell_keep hBN c5; have c6 := cell_keep hBN c6; have c7 := cell_keep hBN c7; have ft := ft.below hBN; have hb := hb.trans (hBN.mono hb.size); clear hBN; try simp only [sv])
  refine hK.out _ _ ?_ (fun hHeld => ?_)
  · (try dsimp only); (first | with_reducible assumption | ((repeat' apply And.intro) <;> first | with_reducible assumption | with_reducible exact cell_alloc1 _ (by with_reducible assumption) | exact Fit.drew (by with_reducible assumption) | exact Fit.alloc (by with_reducible assumption) _ | exact Below.drew (by with_reducible assumption) | exact Below.alloc (by with_reducible assumption) (Below.size (by with_reducible assumption)) _ | go_keep))
  clear hK K
  try simp only [Act.put, List.getElem_toArray, List.getElem_cons_succ, List.getElem_cons_zero, List.setIfInBounds_toArray, List.set_cons_zero, List.set_cons_succ]
  refine wpAnyH_take (i := 28) (v := ?_) rfl (by kernel_rfl) (by kernel_rfl) (by kernel_rfl) (fun _ _ _ h => h) (Or.inl ⟨by kernel_rfl, ?_⟩) (by assumption) ?_
  rotate_left
  · (intro w hSw; (try dsimp only at hSw); go_simp); (try with_reducible rfl)
  try simp only [Act.put, List.getElem_toArray, List.getElem_cons_succ, List.getElem_cons_zero, List.setIfInBounds_toArray, List.set_cons_zero, List.set_cons_succ]
  refine wpAnyH_take (i := 29) (v := ?_) rfl (by kernel_rfl) (by kernel_rfl) (by kernel_rfl) (fun _ _ _ h => h) (Or.inl ⟨by kernel_rfl, ?_⟩) (by assumption) ?_
  rotate_left
  · (intro w hSw; (try dsimp only at hSw); go_simp); (try with_reducible rfl)
  try simp only [Act.put, List.getElem_toArray, List.getElem_cons_succ, List.getElem_cons_zero, List.setIfInBounds_toArray, List.set_cons_zero, List.set_cons_succ]
  refine wpAnyH_done (by kernel_rfl) ?_ _
  refine NoPanic.normal ?_
  go_wp2
  go_ret
  exact ⟨rfl, by with_reducible assumption⟩

set_option maxHeartbeats 100000000 in
theorem folds_no2 (b : Nat) (hb : b < 256) (s f : Nat → Bool) (h3 : 65 ≤ b) (h4 : ¬ b ≤ 90)
    (hf : ∀ w, Fit w → Calls Tryd.prog 21 #[sv s] w fun e w' => e = .returned (sv f) ∧ Below w.heap.size w w')
    (hff : ∀ w, Fit w → Calls Tryd.prog 21 #[sv f] w fun e w' => e = .returned (sv f) ∧ Below w.heap.size w w')
    (ho : ∀ (B cap : Nat) w, w.heap[B]? = some (.cells #[.int .u64 (wd s 0), .int .u64 (wd s 1), .int .u64 (wd s 2), .int .u64 (wd s 3), .int .u64 (wd f 0), .int .u64 (wd f 1), .int .u64 (wd f 2), .int .u64 (wd f 3)] 24 (0, 0)) → Calls Tryd.prog 17 #[.slice (some ⟨B, 0, none⟩) 2 cap] w fun e w' => e = .returned (sv f) ∧ Below w.heap.size w w')
    (w : World) (hw : Fit w) :
    Calls Tryd.prog 6 #[sv s, .int .u8 b] w fun e w' => e = .returned (.bool true) ∧ Below w.heap.size w w' := by
  have HF := Lib.hid hf; have HFF := Lib.hid hff; have HO := Lib.hid ho; have HX := Lib.hid (fun w hw => shown_c w hw)
  clear hf hff ho
  unfold sv
  go_enter Tryd.func6, Tryd.ntmps6
  go_wp2_with fail
  have S0 := Four.new w 24 (.int .u64 (wd s 0)) (.int .u64 (wd s 1)) (.int .u64 (wd s 2)) (.int .u64 (wd s 3))
  have f0 := hw.alloc (.cells #[.int .u64 (wd s 0), .int .u64 (wd s 1), .int .u64 (wd s 2), .int .u64 (wd s 3)] 24)
  have b0 : Below w.heap.size w (w.alloc (.cells #[.int .u64 (wd s 0), .int .u64 (wd s 1), .int .u64 (wd s 2), .int .u64 (wd s 3)] 24)) := (Below.refl _ w).alloc (Nat.le_refl _) _
  refine (HF.out _ f0).mono ?_
  rintro e w1 ⟨rfl, hB1⟩
  have S1 := S0.below hB1 S0.lt
  have hlt := S1.lt
  have f1 := f0.below hB1
  have b1 := b0.trans (hB1.mono b0.size)
  have F1 := Four.new w1 24 (.int .u64 (wd f 0)) (.int .u64 (wd f 1)) (.int .u64 (wd f 2)) (.int .u64 (wd f 3))
  have S1' := S1.alloc (.cells #[.int .u64 (wd f 0), .int .u64 (wd f 1), .int .u64 (wd f 2), .int .u64 (wd f 3)] 24)
  have f1' := f1.alloc (.cells #[.int .u64 (wd f 0), .int .u64 (wd f 1), .int .u64 (wd f 2), .int .u64 (wd f 3)] 24)
  have b1' : Below w.heap.size w (w1.alloc (.cells #[.int .u64 (wd f 0), .int .u64 (wd f 1), .int .u64 (wd f 2), .int .u64 (wd f 3)] 24)) := b1.alloc b1.size _
  clear S0 f0 b0 hB1 f1 b1
  simp only [sv]
  go_wp2_with fail
  have S1dc0 := S1'.c0; have S1dc1 := S1'.c1; have S1dc2 := S1'.c2; have S1dc3 := S1'.c3
  have F1c0 := F1.c0; have F1c1 := F1.c1; have F1c2 := F1.c2; have F1c3 := F1.c3
  have hqf := eq_set f
  have hd1 : decide ((b : Int) ≤ 90) = false := by simp; omega
  have hd2 : decide (b ≤ 90) = false := by simp; omega
  have hd3 : decide ((65 : Int) ≤ b) = true := by simp; omega
  have hd4 : decide (65 ≤ b) = true := by simp; omega
  try simp only [hd1, hd2, hd3, hd4]
  clear hd1 hd2 hd3 hd4
  refine wp_region_noPanic ?_
  refine wp_region_held_drew (S := fun w' => (w'.cell? ⟨w.heap.size, 0, none⟩ = some (.int .u64 (wd s 0)) ∧ w'.cell? ⟨w.heap.size, 1, none⟩ = some (.int .u64 (wd s 1)) ∧ w'.cell? ⟨w.heap.size, 2, none⟩ = some (.int .u64 (wd s 2)) ∧ w'.cell? ⟨w.heap.size, 3, none⟩ = some (.int .u64 (wd s 3)) ∧ w'.cell? ⟨w1.heap.size, 0, none⟩ = some (.int .u64 (wd f 0)) ∧ w'.cell? ⟨w1.heap.size, 1, none⟩ = some (.int .u64 (wd f 1)) ∧ w'.cell? ⟨w1.heap.size, 2, none⟩ = some (.int .u64 (wd f 2)) ∧ w'.cell? ⟨w1.heap.size, 3, none⟩ = some (.int .u64 (wd f 3))) ∧ Fit w' ∧ Below w.heap.size w w') (by kernel_rfl) ?_ (fun hHeld => ?_)
  · (try dsimp only); (first | with_reducible assumption | ((repeat' apply And.intro) <;> first | with_reducible assumption | with_reducible exact cell_alloc1 _ (by with_reducible assumption) | exact Fit.drew (by with_reducible assumption) | exact Fit.alloc (by with_reducible assumption) _ | exact Below.drew (by with_reducible assumption) | exact Below.alloc (by with_reducible assumption) (Below.size (by with_reducible assumption)) _ | go_keep))
  refine wpAnyH_take (i := 0) (v := ?_) rfl (by kernel_rfl) (by kernel_rfl) (by kernel_rfl) (fun _ _ _ h => h) (Or.inl ⟨by kernel_rfl, ?_⟩) (by assumption) ?_
  rotate_left
  · (intro w hSw; (try dsimp only at hSw); go_simp); (try with_reducible rfl)
  try simp only [Act.put, List.getElem_toArray, List.getElem_cons_succ, List.getElem_cons_zero, List.setIfInBounds_toArray, List.set_cons_zero, List.set_cons_succ]
  refine wpAnyH_take (i := 2) (v := ?_) rfl (by kernel_rfl) (by kernel_rfl) (by kernel_rfl) (fun _ _ _ h => h) (Or.inl ⟨by kernel_rfl, ?_⟩) (by assumption) ?_
  rotate_left
  · (intro w hSw; (try dsimp only at hSw); go_simp); (try with_reducible rfl)
  try simp only [Act.put, List.getElem_toArray, List.getElem_cons_succ, List.getElem_cons_zero, List.setIfInBounds_toArray, List.set_cons_zero, List.set_cons_succ]
  refine wpAnyH_ready (rs := [1]) (by kernel_rfl) (by simp) ?_
  refine AllReadyH.cons rfl (fun K hK => ?_) ?_
  rotate_left
  · exact AllReadyH.nil
  go_simp
  (have hh := ‹_ ∧ Fit _ ∧ Below _ _ _›; obtain ⟨⟨c0, c1, c2, c3, c4, c5, c6, c7⟩, ft, hb⟩ := hh; refine (HFF.out _ ft).mono ?_; rintro e wN ⟨rfl, hBN⟩; have c0 := cell_keep hBN c0; have c1 := cell_keep hBN c1; have c2 := cell_keep hBN c2; have c3 := cell_keep hBN c3; have c4 := cell_keep hBN c4; have c5 := cell_keep hBN c5; have c6 := cell_keep hBN c6; have c7 := cell_keep hBN c7; have ft := ft.below hBN; have hb := hb.trans (hBN.mono hb.size); clear hBN; try simp only [sv])
  refine hK.out _ _ ?_ (fun hHeld => ?_)
  · (try dsimp only); (first | with_reducible assumption | ((repeat' apply And.intro) <;> first | with_reducible assumption | with_reducible exact cell_alloc1 _ (by with_reducible assumption) | exact Fit.drew (by with_reducible assumption) | exact Fit.alloc (by with_reducible assumption) _ | exact Below.drew (by with_reducible assumption) | exact Below.alloc (by with_reducible assumption) (Below.size (by with_reducible assumption)) _ | go_keep))
  clear hK K
  try simp only [Act.put, List.getElem_toArray, List.getElem_cons_succ, List.getElem_cons_zero, List.setIfInBounds_toArray, List.set_cons_zero, List.set_cons_succ]
  refine wpAnyH_take (i := 3) (v := ?_) rfl (by kernel_rfl) (by kernel_rfl) (by kernel_rfl) (fun _ _ _ h => h) (Or.inl ⟨by kernel_rfl, ?_⟩) (by assumption) ?_
  rotate_left
  · (intro w hSw; (try dsimp only at hSw); go_simp); (try with_reducible rfl)
  try simp only [Act.put, List.getElem_toArray, List.getElem_cons_succ, List.getElem_cons_zero, List.setIfInBounds_toArray, List.set_cons_zero, List.set_cons_succ]
  refine wpAnyH_take (i := 4) (v := ?_) rfl (by kernel_rfl) (by kernel_rfl) (by kernel_rfl) (fun _ _ _ h => h) (Or.inl ⟨by kernel_rfl, ?_⟩) (by assumption) ?_
  rotate_left
  · (intro w hSw; (try dsimp only at hSw); go_simp); (try with_reducible rfl)
  try simp only [Act.put, List.getElem_toArray, List.getElem_cons_succ, List.getElem_cons_zero, List.setIfInBounds_toArray, List.set_cons_zero, List.set_cons_succ]
  refine wpAnyH_take (i := 5) (v := ?_) rfl (by kernel_rfl) (by kernel_rfl) (by kernel_rfl) (fun _ _ _ h => h) (Or.inl ⟨by kernel_rfl, ?_⟩) (by assumption) ?_
  rotate_left
  · (intro w hSw; (try dsimp only at hSw); go_simp); (try with_reducible rfl)
  try simp only [Act.put, List.getElem_toArray, List.getElem_cons_succ, List.getElem_cons_zero, List.setIfInBounds_toArray, List.set_cons_zero, List.set_cons_succ]
  refine wpAnyH_take (i := 6) (v := ?_) rfl (by kernel_rfl) (by kernel_rfl) (by kernel_rfl) (fun _ _ _ h => h) (Or.inl ⟨by kernel_rfl, ?_⟩) (by assumption) ?_
  rotate_left
  · (intro w hSw; (try dsimp only at hSw); go_simp); (try with_reducible rfl)
  try simp only [Act.put, List.getElem_toArray, List.getElem_cons_succ, List.getElem_cons_zero, List.setIfInBounds_toArray, List.set_cons_zero, List.set_cons_succ]
  refine wpAnyH_take (i := 9) (v := ?_) rfl (by kernel_rfl) (by kernel_rfl) (by kernel_rfl) (fun _ _ _ h => h) (Or.inl ⟨by kernel_rfl, ?_⟩) (by assumption) ?_
  rotate_left
  · (intro w hSw; (try dsimp only at hSw); go_simp); (try with_reducible rfl)
  try simp only [Act.put, List.getElem_toArray, List.getElem_cons_succ, List.getElem_cons_zero, List.setIfInBounds_toArray, List.set_cons_zero, List.set_cons_succ]
  refine wpAnyH_ready (rs := [7]) (by kernel_rfl) (by simp) ?_
  refine AllReadyH.cons rfl (fun K hK => ?_) ?_
  rotate_left
  · exact AllReadyH.nil
  go_simp
  refine hK.out _ _ ?_ (fun hHeld => ?_)
  · (try dsimp only); (first | with_reducible assumption | ((repeat' apply And.intro) <;> first | with_reducible assumption | with_reducible exact cell_alloc1 _ (by with_reducible assumption) | exact Fit.drew (by with_reducible assumption) | exact Fit.alloc (by with_reducible assumption) _ | exact Below.drew (by with_reducible assumption) | exact Below.alloc (by with_reducible assumption) (Below.size (by with_reducible assumption)) _ | go_keep))
  clear hK K
  try simp only [Act.put, List.getElem_toArray, List.getElem_cons_succ, List.getElem_cons_zero, List.setIfInBounds_toArray, List.set_cons_zero, List.set_cons_succ]
  refine wpAnyH_ready (rs := [8]) (by kernel_rfl) (by simp) ?_
  refine AllReadyH.cons rfl (fun K hK => ?_) ?_
  rotate_left
  · exact AllReadyH.nil
  go_simp
  (have hh := ‹_ ∧ Fit _ ∧ Below _ _ _›; obtain ⟨⟨c0, c1, c2, c3, c4, c5, c6, c7⟩, ft, hb⟩ := hh; refine (HO.out _ _ _ (by first | exact heap_new _ _ | (have := heap_new wN (.cells #[.int .u64 (wd s 0), .int .u64 (wd s 1), .int .u64 (wd s 2), .int .u64 (wd s 3), .int .u64 (wd f 0), .int .u64 (wd f 1), .int .u64 (wd f 2), .int .u64 (wd f 3)] 24); simpa using this))).mono ?_; rintro e wN ⟨rfl, hBN⟩; have c0 := cell_keep hBN c0; have c1 := cell_keep hBN c1; have c2 := cell_keep hBN c2; have c3 := cell_keep hBN c3; have c4 := cell_keep hBN c4; have c5 := cell_keep hBN c5; have c6 := cell_keep hBN c6; have c7 := cell_keep hBN c7; have ft := ft.below hBN; have hb := hb.trans (hBN.mono hb.size); clear hBN; try simp only [sv])
  refine hK.out _ _ ?_ (fun hHeld => ?_)
  · (try dsimp only); (first | with_reducible assumption | ((repeat' apply And.intro) <;> first | with_reducible assumption | with_reducible exact cell_alloc1 _ (by with_reducible assumption) | exact Fit.drew (by with_reducible assumption) | exact Fit.alloc (by with_reducible assumption) _ | exact Below.drew (by with_reducible assumption) | exact Below.alloc (by with_reducible assumption) (Below.size (by with_reducible assumption)) _ | go_keep))
  clear hK K
  try simp only [Act.put, List.getElem_toArray, List.getElem_cons_succ, List.getElem_cons_zero, List.setIfInBounds_toArray, List.set_cons_zero, List.set_cons_succ]
  refine wpAnyH_take (i := 10) (v := ?_) rfl (by kernel_rfl) (by kernel_rfl) (by kernel_rfl) (fun _ _ _ h => h) (Or.inl ⟨by kernel_rfl, ?_⟩) (by assumption) ?_
  rotate_left
  · (intro w hSw; (try dsimp only at hSw); go_simp); (try with_reducible rfl)
  try simp only [Act.put, List.getElem_toArray, List.getElem_cons_succ, List.getElem_cons_zero, List.setIfInBounds_toArray, List.set_cons_zero, List.set_cons_succ]
  refine wpAnyH_take (i := 11) (v := ?_) rfl (by kernel_rfl) (by kernel_rfl) (by kernel_rfl) (fun _ _ _ h => h) (Or.inl ⟨by kernel_rfl, ?_⟩) (by assumption) ?_
  rotate_left
  · (intro w hSw; (try dsimp only at hSw); go_simp); (try with_reducible rfl)
  try simp only [Act.put, List.getElem_toArray, List.getElem_cons_succ, List.getElem_cons_zero, List.setIfInBounds_toArray, List.set_cons_zero, List.set_cons_succ]
  refine wpAnyH_take (i := 12) (v := ?_) rfl (by kernel_rfl) (by kernel_rfl) (by kernel_rfl) (fun _ _ _ h => h) (Or.inl ⟨by kernel_rfl, ?_⟩) (by assumption) ?_
  rotate_left
  · (intro w hSw; (try dsimp only at hSw); go_simp); (try with_reducible rfl)
  try simp only [Act.put, List.getElem_toArray, List.getElem_cons_succ, List.getElem_cons_zero, List.setIfInBounds_toArray, List.set_cons_zero, List.set_cons_succ]
  refine wpAnyH_take (i := 13) (v := ?_) rfl (by kernel_rfl) (by kernel_rfl) (by kernel_rfl) (fun _ _ _ h => h) (Or.inl ⟨by kernel_rfl, ?_⟩) (by assumption) ?_
  rotate_left
  · (intro w hSw; (try dsimp only at hSw); go_simp); (try with_reducible rfl)
  try simp only [Act.put, List.getElem_toArray, List.getElem_cons_succ, List.getElem_cons_zero, List.setIfInBounds_toArray, List.set_cons_zero, List.set_cons_succ]
  refine wpAnyH_take (i := 14) (v := ?_) rfl (by kernel_rfl) (by kernel_rfl) (by kernel_rfl) (fun _ _ _ h => h) (Or.inl ⟨by kernel_rfl, ?_⟩) (by assumption) ?_
  rotate_left
  · (intro w hSw; (try dsimp only at hSw); go_simp); (try with_reducible rfl)
  try simp only [Act.put, List.getElem_toArray, List.getElem_cons_succ, List.getElem_cons_zero, List.setIfInBounds_toArray, List.set_cons_zero, List.set_cons_succ]
  refine wpAnyH_take (i := 15) (v := ?_) rfl (by kernel_rfl) (by kernel_rfl) (by kernel_rfl) (fun _ _ _ h => h) (Or.inl ⟨by kernel_rfl, ?_⟩) (by assumption) ?_
  rotate_left
  · (intro w hSw; (try dsimp only at hSw); go_simp); (try with_reducible rfl)
  try simp only [Act.put, List.getElem_toArray, List.getElem_cons_succ, List.getElem_cons_zero, List.setIfInBounds_toArray, List.set_cons_zero, List.set_cons_succ]
  refine wpAnyH_take (i := 16) (v := undef) rfl (by kernel_rfl) (by kernel_rfl) (by kernel_rfl) (fun _ _ _ h => h) (Or.inr ⟨by kernel_rfl, rfl⟩) (by assumption) ?_
  try simp only [Act.put, List.getElem_toArray, List.getElem_cons_succ, List.getElem_cons_zero, List.setIfInBounds_toArray, List.set_cons_zero, List.set_cons_succ]
  refine wpAnyH_take (i := 17) (v := undef) rfl (by kernel_rfl) (by kernel_rfl) (by kernel_rfl) (fun _ _ _ h => h) (Or.inr ⟨by kernel_rfl, rfl⟩) (by assumption) ?_
  try simp only [Act.put, List.getElem_toArray, List.getElem_cons_succ, List.getElem_cons_zero, List.setIfInBounds_toArray, List.set_cons_zero, List.set_cons_succ]
  refine wpAnyH_take (i := 19) (v := undef) rfl (by kernel_rfl) (by kernel_rfl) (by kernel_rfl) (fun _ _ _ h => h) (Or.inr ⟨by kernel_rfl, rfl⟩) (by assumption) ?_
  try simp only [Act.put, List.getElem_toArray, List.getElem_cons_succ, List.getElem_cons_zero, List.setIfInBounds_toArray, List.set_cons_zero, List.set_cons_succ]
  refine wpAnyH_take (i := 20) (v := undef) rfl (by kernel_rfl) (by kernel_rfl) (by kernel_rfl) (fun _ _ _ h => h) (Or.inr ⟨by kernel_rfl, rfl⟩) (by assumption) ?_
  try simp only [Act.put, List.getElem_toArray, List.getElem_cons_succ, List.getElem_cons_zero, List.setIfInBounds_toArray, List.set_cons_zero, List.set_cons_succ]
  refine wpAnyH_take (i := 18) (v := undef) rfl (by kernel_rfl) (by kernel_rfl) (by kernel_rfl) (fun _ _ _ h => h) (Or.inr ⟨by kernel_rfl, rfl⟩) (by assumption) ?_
  try simp only [Act.put, List.getElem_toArray, List.getElem_cons_succ, List.getElem_cons_zero, List.setIfInBounds_toArray, List.set_cons_zero, List.set_cons_succ]
  refine wpAnyH_take (i := 21) (v := undef) rfl (by kernel_rfl) (by kernel_rfl) (by kernel_rfl) (fun _ _ _ h => h) (Or.inr ⟨by kernel_rfl, rfl⟩) (by assumption) ?_
  try simp only [Act.put, List.getElem_toArray, List.getElem_cons_succ, List.getElem_cons_zero, List.setIfInBounds_toArray, List.set_cons_zero, List.set_cons_succ]
  refine wpAnyH_take (i := 22) (v := undef) rfl (by kernel_rfl) (by kernel_rfl) (by kernel_rfl) (fun _ _ _ h => h) (Or.inr ⟨by kernel_rfl, rfl⟩) (by assumption) ?_
  try simp only [Act.put, List.getElem_toArray, List.getElem_cons_succ, List.getElem_cons_zero, List.setIfInBounds_toArray, List.set_cons_zero, List.set_cons_succ]
  refine wpAnyH_take (i := 23) (v := undef) rfl (by kernel_rfl) (by kernel_rfl) (by kernel_rfl) (fun _ _ _ h => h) (Or.inr ⟨by kernel_rfl, rfl⟩) (by assumption) ?_
  try simp only [Act.put, List.getElem_toArray, List.getElem_cons_succ, List.getElem_cons_zero, List.setIfInBounds_toArray, List.set_cons_zero, List.set_cons_succ]
  refine wpAnyH_take (i := 24) (v := ?_) rfl (by kernel_rfl) (by kernel_rfl) (by kernel_rfl) (fun _ _ _ h => h) (Or.inl ⟨by kernel_rfl, ?_⟩) (by assumption) ?_
  rotate_left
  · (intro w hSw; (try dsimp only at hSw); go_simp); (try with_reducible rfl)
  try simp only [Act.put, List.getElem_toArray, List.getElem_cons_succ, List.getElem_cons_zero, List.setIfInBounds_toArray, List.set_cons_zero, List.set_cons_succ]
  refine wpAnyH_take (i := 25) (v := ?_) rfl (by kernel_rfl) (by kernel_rfl) (by kernel_rfl) (fun _ _ _ h => h) (Or.inl ⟨by kernel_rfl, ?_⟩) (by assumption) ?_
  rotate_left
  · (intro w hSw; (try dsimp only at hSw); go_simp); (try with_reducible rfl)
  try simp only [Act.put, List.getElem_toArray, List.getElem_cons_succ, List.getElem_cons_zero, List.setIfInBounds_toArray, List.set_cons_zero, List.set_cons_succ]
  refine wpAnyH_take (i := 26) (v := ?_) rfl (by kernel_rfl) (by kernel_rfl) (by kernel_rfl) (fun _ _ _ h => h) (Or.inl ⟨by kernel_rfl, ?_⟩) (by assumption) ?_
  rotate_left
  · (intro w hSw; (try dsimp only at hSw); go_simp); (try with_reducible rfl)
  try simp only [Act.put, List.getElem_toArray, List.getElem_cons_succ, List.getElem_cons_zero, List.setIfInBounds_toArray, List.set_cons_zero, List.set_cons_succ]
  refine wpAnyH_ready (rs := [27]) (by kernel_rfl) (by simp) ?_
  refine AllReadyH.cons rfl (fun K hK => ?_) ?_
  rotate_left
  · exact AllReadyH.nil
  go_simp
  (have hh := ‹_ ∧ Fit _ ∧ Below _ _ _›; obtain ⟨⟨c0, c1, c2, c3, c4, c5, c6, c7⟩, ft, hb⟩ := hh; refine (HX.out _ ft).mono ?_; rintro e wN ⟨rfl, hBN⟩; have c0 := cell_keep hBN c0; have c1 := cell_keep hBN c1; have c2 := cell_keep hBN c2; have c3 := cell_keep hBN c3; have c4 := cell_keep hBN c4; have c5 := cell_keep hBN c5; have c6 := cell_keep hBN c6; have c7 := cell_keep hBN c7; have ft := ft.below hBN; have hb := hb.trans (hBN.mono hb.size); clear hBN; try simp only [sv])
  refine hK.out _ _ ?_ (fun hHeld => ?_)
  · (try dsimp only); (first | with_reducible assumption | ((repeat' apply And.intro) <;> first | with_reducible assumption | with_reducible exact cell_alloc1 _ (by with_reducible assumption) | exact Fit.drew (by with_reducible assumption) | exact Fit.alloc (by with_reducible assumption) _ | exact Below.drew (by with_reducible assumption) | exact Below.alloc (by with_reducible assumption) (Below.size (by with_reducible assumption)) _ | go_keep))
  clear hK K
  try simp only [Act.put, List.getElem_toArray, List.getElem_cons_succ, List.getElem_cons_zero, List.setIfInBounds_toArray, List.set_cons_zero, List.set_cons_succ]
  refine wpAnyH_take (i := 28) (v := ?_) rfl (by kernel_rfl) (by kernel_rfl) (by kernel_rfl) (fun _ _ _ h => h) (Or.inl ⟨by kernel_rfl, ?_⟩) (by assumption) ?_
  rotate_left
  · (intro w hSw; (try dsimp only at hSw); go_simp); (try with_reducible rfl)
  try simp only [Act.put, List.getElem_toArray, List.getElem_cons_succ, List.getElem_cons_zero, List.setIfInBounds_toArray, List.set_cons_zero, List.set_cons_succ]
  refine wpAnyH_take (i := 29) (v := ?_) rfl (by kernel_rfl) (by kernel_rfl) (by kernel_rfl) (fun _ _ _ h => h) (Or.inl ⟨by kernel_rfl, ?_⟩) (by assumption) ?_
  rotate_left
  · (intro w hSw; (try dsimp only at hSw); go_simp); (try with_reducible rfl)
  try simp only [Act.put, List.getElem_toArray, List.getElem_cons_succ, List.getElem_cons_zero, List.setIfInBounds_toArray, List.set_cons_zero, List.set_cons_succ]
  refine wpAnyH_done (by kernel_rfl) ?_ _
  refine NoPanic.normal ?_
  go_wp2
  go_ret
  exact ⟨rfl, by with_reducible assumption⟩

set_option maxHeartbeats 100000000 in
theorem folds_yes (b : Nat) (hb : b < 256) (s f : Nat → Bool) (v : Bool) (h3 : 65 ≤ b) (h4 : b ≤ 90)
    (hf : ∀ w, Fit w → Calls Tryd.prog 21 #[sv s] w fun e w' => e = .returned (sv f) ∧ Below w.heap.size w w')
    (hff : ∀ w, Fit w → Calls Tryd.prog 21 #[sv f] w fun e w' => e = .returned (sv f) ∧ Below w.heap.size w w')
    (ho : ∀ (B cap : Nat) w, w.heap[B]? = some (.cells #[.int .u64 (wd s 0), .int .u64 (wd s 1), .int .u64 (wd s 2), .int .u64 (wd s 3), .int .u64 (wd f 0), .int .u64 (wd f 1), .int .u64 (wd f 2), .int .u64 (wd f 3)] 24 (0, 0)) → Calls Tryd.prog 17 #[.slice (some ⟨B, 0, none⟩) 2 cap] w fun e w' => e = .returned (sv f) ∧ Below w.heap.size w w')
    (h1 : ∀ w, Calls Tryd.prog 14 #[sv f, .int .u8 b] w fun e w' => e = .returned (.bool v) ∧ Below w.heap.size w w')
    (h2 : ∀ w, Calls Tryd.prog 14 #[sv f, .int .u8 ((b : Int) + 32)] w fun e w' => e = .returned (.bool v) ∧ Below w.heap.size w w')
    (w : World) (hw : Fit w) :
    Calls Tryd.prog 6 #[sv s, .int .u8 b] w fun e w' => e = .returned (.bool true) ∧ Below w.heap.size w w' := by
  have HF := Lib.hid hf; have HFF := Lib.hid hff; have HO := Lib.hid ho; have H1 := Lib.hid h1; have H2 := Lib.hid h2; have HX := Lib.hid (fun w hw => shown_c w hw)
  clear hf hff ho h1 h2
  unfold sv
  go_enter Tryd.func6, Tryd.ntmps6
  go_wp2_with fail
  have S0 := Four.new w 24 (.int .u64 (wd s 0)) (.int .u64 (wd s 1)) (.int .u64 (wd s 2)) (.int .u64 (wd s 3))
  have f0 := hw.alloc (.cells #[.int .u64 (wd s 0), .int .u64 (wd s 1), .int .u64 (wd s 2), .int .u64 (wd s 3)] 24)
  have b0 : Below w.heap.size w (w.alloc (.cells #[.int .u64 (wd s 0), .int .u64 (wd s 1), .int .u64 (wd s 2), .int .u64 (wd s 3)] 24)) := (Below.refl _ w).alloc (Nat.le_refl _) _
  refine (HF.out _ f0).mono ?_
  rintro e w1 ⟨rfl, hB1⟩
  have S1 := S0.below hB1 S0.lt
  have hlt := S1.lt
  have f1 := f0.below hB1
  have b1 := b0.trans (hB1.mono b0.size)
  have F1 := Four.new w1 24 (.int .u64 (wd f 0)) (.int .u64 (wd f 1)) (.int .u64 (wd f 2)) (.int .u64 (wd f 3))
  have S1' := S1.alloc (.cells #[.int .u64 (wd f 0), .int .u64 (wd f 1), .int .u64 (wd f 2), .int .u64 (wd f 3)] 24)
  have f1' := f1.alloc (.cells #[.int .u64 (wd f 0), .int .u64 (wd f 1), .int .u64 (wd f 2), .int .u64 (wd f 3)] 24)
  have b1' : Below w.heap.size w (w1.alloc (.cells #[.int .u64 (wd f 0), .int .u64 (wd f 1), .int .u64 (wd f 2), .int .u64 (wd f 3)] 24)) := b1.alloc b1.size _
  clear S0 f0 b0 hB1 f1 b1
  simp only [sv]
  go_wp2_with fail
  have S1dc0 := S1'.c0; have S1dc1 := S1'.c1; have S1dc2 := S1'.c2; have S1dc3 := S1'.c3
  have F1c0 := F1.c0; have F1c1 := F1.c1; have F1c2 := F1.c2; have F1c3 := F1.c3
  have hqf := eq_set f
  have hd1 : decide ((b : Int) ≤ 90) = true := by simp; omega
  have hd2 : decide (b ≤ 90) = true := by simp; omega
  have hd3 : decide ((65 : Int) ≤ b) = true := by simp; omega
  have hd4 : decide (65 ≤ b) = true := by simp; omega
  try simp only [hd1, hd2, hd3, hd4]
  clear hd1 hd2 hd3 hd4
  have hwr : IntKind.u8.wrap ((b : Int) + 32) = (b : Int) + 32 := by simp [IntKind.wrap, IntKind.signed, IntKind.bits]; omega
  refine wp_region_noPanic ?_
  refine wp_region_held_drew (S := fun w' => (w'.cell? ⟨w.heap.size, 0, none⟩ = some (.int .u64 (wd s 0)) ∧ w'.cell? ⟨w.heap.size, 1, none⟩ = some (.int .u64 (wd s 1)) ∧ w'.cell? ⟨w.heap.size, 2, none⟩ = some (.int .u64 (wd s 2)) ∧ w'.cell? ⟨w.heap.size, 3, none⟩ = some (.int .u64 (wd s 3)) ∧ w'.cell? ⟨w1.heap.size, 0, none⟩ = some (.int .u64 (wd f 0)) ∧ w'.cell? ⟨w1.heap.size, 1, none⟩ = some (.int .u64 (wd f 1)) ∧ w'.cell? ⟨w1.heap.size, 2, none⟩ = some (.int .u64 (wd f 2)) ∧ w'.cell? ⟨w1.heap.size, 3, none⟩ = some (.int .u64 (wd f 3))) ∧ Fit w' ∧ Below w.heap.size w w') (by kernel_rfl) ?_ (fun hHeld => ?_)
  · (try dsimp only); (first | with_reducible assumption | ((repeat' apply And.intro) <;> first | with_reducible assumption | with_reducible exact cell_alloc1 _ (by with_reducible assumption) | exact Fit.drew (by with_reducible assumption) | exact Fit.alloc (by with_reducible assumption) _ | exact Below.drew (by with_reducible assumption) | exact Below.alloc (by with_reducible assumption) (Below.size (by with_reducible assumption)) _ | go_keep))
  refine wpAnyH_take (i := 0) (v := ?_) rfl (by kernel_rfl) (by kernel_rfl) (by kernel_rfl) (fun _ _ _ h => h) (Or.inl ⟨by kernel_rfl, ?_⟩) (by assumption) ?_
  rotate_left
  · (intro w hSw; (try dsimp only at hSw); go_simp); (try with_reducible rfl)
  try simp only [Act.put, List.getElem_toArray, List.getElem_cons_succ, List.getElem_cons_zero, List.setIfInBounds_toArray, List.set_cons_zero, List.set_cons_succ]
  refine wpAnyH_take (i := 2) (v := ?_) rfl (by kernel_rfl) (by kernel_rfl) (by kernel_rfl) (fun _ _ _ h => h) (Or.inl ⟨by kernel_rfl, ?_⟩) (by assumption) ?_
  rotate_left
  · (intro w hSw; (try dsimp only at hSw); go_simp); (try with_reducible rfl)
  try simp only [Act.put, List.getElem_toArray, List.getElem_cons_succ, List.getElem_cons_zero, List.setIfInBounds_toArray, List.set_cons_zero, List.set_cons_succ]
  refine wpAnyH_ready (rs := [1]) (by kernel_rfl) (by simp) ?_
  refine AllReadyH.cons rfl (fun K hK => ?_) ?_
  rotate_left
  · exact AllReadyH.nil
  go_simp
  (have hh := ‹_ ∧ Fit _ ∧ Below _ _ _›; obtain ⟨⟨c0, c1, c2, c3, c4, c5, c6, c7⟩, ft, hb⟩ := hh; refine (HFF.out _ ft).mono ?_; rintro e wN ⟨rfl, hBN⟩; have c0 := cell_keep hBN c0; have c1 := cell_keep hBN c1; have c2 := cell_keep hBN c2; have c3 := cell_keep hBN c3; have c4 := cell_keep hBN c4; have c5 := cell_keep hBN c5; have c6 := cell_keep hBN c6; have c7 := cell_keep hBN c7; have ft := ft.below hBN; have hb := hb.trans (hBN.mono hb.size); clear hBN; try simp only [sv])
  refine hK.out _ _ ?_ (fun hHeld => ?_)
  · (try dsimp only); (first | with_reducible assumption | ((repeat' apply And.intro) <;> first | with_reducible assumption | with_reducible exact cell_alloc1 _ (by with_reducible assumption) | exact Fit.drew (by with_reducible assumption) | exact Fit.alloc (by with_reducible assumption) _ | exact Below.drew (by with_reducible assumption) | exact Below.alloc (by with_reducible assumption) (Below.size (by with_reducible assumption)) _ | go_keep))
  clear hK K
  try simp only [Act.put, List.getElem_toArray, List.getElem_cons_succ, List.getElem_cons_zero, List.setIfInBounds_toArray, List.set_cons_zero, List.set_cons_succ]
  refine wpAnyH_take (i := 3) (v := ?_) rfl (by kernel_rfl) (by kernel_rfl) (by kernel_rfl) (fun _ _ _ h => h) (Or.inl ⟨by kernel_rfl, ?_⟩) (by assumption) ?_
  rotate_left
  · (intro w hSw; (try dsimp only at hSw); go_simp); (try with_reducible rfl)
  try simp only [Act.put, List.getElem_toArray, List.getElem_cons_succ, List.getElem_cons_zero, List.setIfInBounds_toArray, List.set_cons_zero, List.set_cons_succ]
  refine wpAnyH_take (i := 4) (v := ?_) rfl (by kernel_rfl) (by kernel_rfl) (by kernel_rfl) (fun _ _ _ h => h) (Or.inl ⟨by kernel_rfl, ?_⟩) (by assumption) ?_
  rotate_left
  · (intro w hSw; (try dsimp only at hSw); go_simp); (try with_reducible rfl)
  try simp only [Act.put, List.getElem_toArray, List.getElem_cons_succ, List.getElem_cons_zero, List.setIfInBounds_toArray, List.set_cons_zero, List.set_cons_succ]
  refine wpAnyH_take (i := 5) (v := ?_) rfl (by kernel_rfl) (by kernel_rfl) (by kernel_rfl) (fun _ _ _ h => h) (Or.inl ⟨by kernel_rfl, ?_⟩) (by assumption) ?_
  rotate_left
  · (intro w hSw; (try dsimp only at hSw); go_simp); (try with_reducible rfl)
  try simp only [Act.put, List.getElem_toArray, List.getElem_cons_succ, List.getElem_cons_zero, List.setIfInBounds_toArray, List.set_cons_zero, List.set_cons_succ]
  refine wpAnyH_take (i := 6) (v := ?_) rfl (by kernel_rfl) (by kernel_rfl) (by kernel_rfl) (fun _ _ _ h => h) (Or.inl ⟨by kernel_rfl, ?_⟩) (by assumption) ?_
  rotate_left
  · (intro w hSw; (try dsimp only at hSw); go_simp); (try with_reducible rfl)
  try simp only [Act.put, List.getElem_toArray, List.getElem_cons_succ, List.getElem_cons_zero, List.setIfInBounds_toArray, List.set_cons_zero, List.set_cons_succ]
  refine wpAnyH_take (i := 9) (v := ?_) rfl (by kernel_rfl) (by kernel_rfl) (by kernel_rfl) (fun _ _ _ h => h) (Or.inl ⟨by kernel_rfl, ?_⟩) (by assumption) ?_
  rotate_left
  · (intro w hSw; (try dsimp only at hSw); go_simp); (try with_reducible rfl)
  try simp only [Act.put, List.getElem_toArray, List.getElem_cons_succ, List.getElem_cons_zero, List.setIfInBounds_toArray, List.set_cons_zero, List.set_cons_succ]
  refine wpAnyH_ready (rs := [7]) (by kernel_rfl) (by simp) ?_
  refine AllReadyH.cons rfl (fun K hK => ?_) ?_
  rotate_left
  · exact AllReadyH.nil
  go_simp
  refine hK.out _ _ ?_ (fun hHeld => ?_)
  · (try dsimp only); (first | with_reducible assumption | ((repeat' apply And.intro) <;> first | with_reducible assumption | with_reducible exact cell_alloc1 _ (by with_reducible assumption) | exact Fit.drew (by with_reducible assumption) | exact Fit.alloc (by with_reducible assumption) _ | exact Below.drew (by with_reducible assumption) | exact Below.alloc (by with_reducible assumption) (Below.size (by with_reducible assumption)) _ | go_keep))
  clear hK K
  try simp only [Act.put, List.getElem_toArray, List.getElem_cons_succ, List.getElem_cons_zero, List.setIfInBounds_toArray, List.set_cons_zero, List.set_cons_succ]
  refine wpAnyH_ready (rs := [8]) (by kernel_rfl) (by simp) ?_
  refine AllReadyH.cons rfl (fun K hK => ?_) ?_
  rotate_left
  · exact AllReadyH.nil
  go_simp
  (have hh := ‹_ ∧ Fit _ ∧ Below _ _ _›; obtain ⟨⟨c0, c1, c2, c3, c4, c5, c6, c7⟩, ft, hb⟩ := hh; refine (HO.out _ _ _ (by first | exact heap_new _ _ | (have := heap_new wN (.cells #[.int .u64 (wd s 0), .int .u64 (wd s 1), .int .u64 (wd s 2), .int .u64 (wd s 3), .int .u64 (wd f 0), .int .u64 (wd f 1), .int .u64 (wd f 2), .int .u64 (wd f 3)] 24); simpa using this))).mono ?_; rintro e wN ⟨rfl, hBN⟩; have c0 := cell_keep hBN c0; have c1 := cell_keep hBN c1; have c2 := cell_keep hBN c2; have c3 := cell_keep hBN c3; have c4 := cell_keep hBN c4; have c5 := cell_keep hBN c5; have c6 := cell_keep hBN c6; have c7 := cell_keep hBN c7; have ft := ft.below hBN; have hb := hb.trans (hBN.mono hb.size); clear hBN; try simp only [sv])
  refine hK.out _ _ ?_ (fun hHeld => ?_)
  · (try dsimp only); (first | with_reducible assumption | ((repeat' apply And.intro) <;> first | with_reducible assumption | with_reducible exact cell_alloc1 _ (by with_reducible assumption) | exact Fit.drew (by with_reducible assumption) | exact Fit.alloc (by with_reducible assumption) _ | exact Below.drew (by with_reducible assumption) | exact Below.alloc (by with_reducible assumption) (Below.size (by with_reducible assumption)) _ | go_keep))
  clear hK K
  try simp only [Act.put, List.getElem_toArray, List.getElem_cons_succ, List.getElem_cons_zero, List.setIfInBounds_toArray, List.set_cons_zero, List.set_cons_succ]
  refine wpAnyH_take (i := 10) (v := ?_) rfl (by kernel_rfl) (by kernel_rfl) (by kernel_rfl) (fun _ _ _ h => h) (Or.inl ⟨by kernel_rfl, ?_⟩) (by assumption) ?_
  rotate_left
  · (intro w hSw; (try dsimp only at hSw); go_simp); (try with_reducible rfl)
  try simp only [Act.put, List.getElem_toArray, List.getElem_cons_succ, List.getElem_cons_zero, List.setIfInBounds_toArray, List.set_cons_zero, List.set_cons_succ]
  refine wpAnyH_take (i := 11) (v := ?_) rfl (by kernel_rfl) (by kernel_rfl) (by kernel_rfl) (fun _ _ _ h => h) (Or.inl ⟨by kernel_rfl, ?_⟩) (by assumption) ?_
  rotate_left
  · (intro w hSw; (try dsimp only at hSw); go_simp); (try with_reducible rfl)
  try simp only [Act.put, List.getElem_toArray, List.getElem_cons_succ, List.getElem_cons_zero, List.setIfInBounds_toArray, List.set_cons_zero, List.set_cons_succ]
  refine wpAnyH_take (i := 12) (v := ?_) rfl (by kernel_rfl) (by kernel_rfl) (by kernel_rfl) (fun _ _ _ h => h) (Or.inl ⟨by kernel_rfl, ?_⟩) (by assumption) ?_
  rotate_left
  · (intro w hSw; (try dsimp only at hSw); go_simp); (try with_reducible rfl)
  try simp only [Act.put, List.getElem_toArray, List.getElem_cons_succ, List.getElem_cons_zero, List.setIfInBounds_toArray, List.set_cons_zero, List.set_cons_succ]
  refine wpAnyH_take (i := 13) (v := ?_) rfl (by kernel_rfl) (by kernel_rfl) (by kernel_rfl) (fun _ _ _ h => h) (Or.inl ⟨by kernel_rfl, ?_⟩) (by assumption) ?_
  rotate_left
  · (intro w hSw; (try dsimp only at hSw); go_simp); (try with_reducible rfl)
  try simp only [Act.put, List.getElem_toArray, List.getElem_cons_succ, List.getElem_cons_zero, List.setIfInBounds_toArray, List.set_cons_zero, List.set_cons_succ]
  refine wpAnyH_take (i := 14) (v := ?_) rfl (by kernel_rfl) (by kernel_rfl) (by kernel_rfl) (fun _ _ _ h => h) (Or.inl ⟨by kernel_rfl, ?_⟩) (by assumption) ?_
  rotate_left
  · (intro w hSw; (try dsimp only at hSw); go_simp); (try with_reducible rfl)
  try simp only [Act.put, List.getElem_toArray, List.getElem_cons_succ, List.getElem_cons_zero, List.setIfInBounds_toArray, List.set_cons_zero, List.set_cons_succ]
  refine wpAnyH_take (i := 15) (v := ?_) rfl (by kernel_rfl) (by kernel_rfl) (by kernel_rfl) (fun _ _ _ h => h) (Or.inl ⟨by kernel_rfl, ?_⟩) (by assumption) ?_
  rotate_left
  · (intro w hSw; (try dsimp only at hSw); go_simp); (try with_reducible rfl)
  try simp only [Act.put, List.getElem_toArray, List.getElem_cons_succ, List.getElem_cons_zero, List.setIfInBounds_toArray, List.set_cons_zero, List.set_cons_succ]
  refine wpAnyH_take (i := 16) (v := ?_) rfl (by kernel_rfl) (by kernel_rfl) (by kernel_rfl) (fun _ _ _ h => h) (Or.inl ⟨by kernel_rfl, ?_⟩) (by assumption) ?_
  rotate_left
  · (intro w hSw; (try dsimp only at hSw); go_simp); (try with_reducible rfl)
  try simp only [Act.put, List.getElem_toArray, List.getElem_cons_succ, List.getElem_cons_zero, List.setIfInBounds_toArray, List.set_cons_zero, List.set_cons_succ]
  refine wpAnyH_take (i := 17) (v := ?_) rfl (by kernel_rfl) (by kernel_rfl) (by kernel_rfl) (fun _ _ _ h => h) (Or.inl ⟨by kernel_rfl, ?_⟩) (by assumption) ?_
  rotate_left
  · (intro w hSw; (try dsimp only at hSw); go_simp); (try with_reducible rfl)
  try simp only [Act.put, List.getElem_toArray, List.getElem_cons_succ, List.getElem_cons_zero, List.setIfInBounds_toArray, List.set_cons_zero, List.set_cons_succ]
  refine wpAnyH_take (i := 19) (v := ?_) rfl (by kernel_rfl) (by kernel_rfl) (by kernel_rfl) (fun _ _ _ h => h) (Or.inl ⟨by kernel_rfl, ?_⟩) (by assumption) ?_
  rotate_left
  · (intro w hSw; (try dsimp only at hSw); go_simp); (try with_reducible rfl)
  try simp only [Act.put, List.getElem_toArray, List.getElem_cons_succ, List.getElem_cons_zero, List.setIfInBounds_toArray, List.set_cons_zero, List.set_cons_succ]
  refine wpAnyH_take (i := 20) (v := ?_) rfl (by kernel_rfl) (by kernel_rfl) (by kernel_rfl) (fun _ _ _ h => h) (Or.inl ⟨by kernel_rfl, ?_⟩) (by assumption) ?_
  rotate_left
  · (intro w hSw; (try dsimp only at hSw); go_simp); (try with_reducible rfl)
  try simp only [Act.put, List.getElem_toArray, List.getElem_cons_succ, List.getElem_cons_zero, List.setIfInBounds_toArray, List.set_cons_zero, List.set_cons_succ]
  refine wpAnyH_take (i := 21) (v := ?_) rfl (by kernel_rfl) (by kernel_rfl) (by kernel_rfl) (fun _ _ _ h => h) (Or.inl ⟨by kernel_rfl, ?_⟩) (by assumption) ?_
  rotate_left
  · (intro w hSw; (try dsimp only at hSw); go_simp); (try with_reducible rfl)
  try simp only [Act.put, List.getElem_toArray, List.getElem_cons_succ, List.getElem_cons_zero, List.setIfInBounds_toArray, List.set_cons_zero, List.set_cons_succ]
  refine wpAnyH_ready (rs := [18]) (by kernel_rfl) (by simp) ?_
  refine AllReadyH.cons rfl (fun K hK => ?_) ?_
  rotate_left
  · exact AllReadyH.nil
  go_simp
  (have hh := ‹_ ∧ Fit _ ∧ Below _ _ _›; obtain ⟨⟨c0, c1, c2, c3, c4, c5, c6, c7⟩, ft, hb⟩ := hh; refine (H1.out _).mono ?_; rintro e wN ⟨rfl, hBN⟩; have c0 := cell_keep hBN c0; have c1 := cell_keep hBN c1; have c2 := cell_keep hBN c2; have c3 := cell_keep hBN c3; have c4 := cell_keep hBN c4; have c5 := cell_keep hBN c5; have c6 := cell_keep hBN c6; have c7 := cell_keep hBN c7; have ft := ft.below hBN; have hb := hb.trans (hBN.mono hb.size); clear hBN; try simp only [sv])
  refine hK.out _ _ ?_ (fun hHeld => ?_)
  · (try dsimp only); (first | with_reducible assumption | ((repeat' apply And.intro) <;> first | with_reducible assumption | with_reducible exact cell_alloc1 _ (by with_reducible assumption) | exact Fit.drew (by with_reducible assumption) | exact Fit.alloc (by with_reducible assumption) _ | exact Below.drew (by with_reducible assumption) | exact Below.alloc (by with_reducible assumption) (Below.size (by with_reducible assumption)) _ | go_keep))
  clear hK K
  try simp only [Act.put, List.getElem_toArray, List.getElem_cons_succ, List.getElem_cons_zero, List.setIfInBounds_toArray, List.set_cons_zero, List.set_cons_succ]
  refine wpAnyH_ready (rs := [22]) (by kernel_rfl) (by simp) ?_
  refine AllReadyH.cons rfl (fun K hK => ?_) ?_
  rotate_left
  · exact AllReadyH.nil
  go_simp
  (have hh := ‹_ ∧ Fit _ ∧ Below _ _ _›; obtain ⟨⟨c0, c1, c2, c3, c4, c5, c6, c7⟩, ft, hb⟩ := hh; refine (H2.out _).mono ?_; rintro e wN ⟨rfl, hBN⟩; have c0 := cell_keep hBN c0; have c1 := cell_keep hBN c1; have c2 := cell_keep hBN c2; have c3 := cell_keep hBN c3; have c4 := cell_keep hBN c4; have c5 := cell_keep hBN c5; have c6 := cell_keep hBN c6; have c7 := cell_keep hBN c7; have ft := ft.below hBN; have hb := hb.trans (hBN.mono hb.size); clear hBN; try simp only [sv])
  refine hK.out _ _ ?_ (fun hHeld => ?_)
  · (try dsimp only); (first | with_reducible assumption | ((repeat' apply And.intro) <;> first | with_reducible assumption | with_reducible exact cell_alloc1 _ (by with_reducible assumption) | exact Fit.drew (by with_reducible assumption) | exact Fit.alloc (by with_reducible assumption) _ | exact Below.drew (by with_reducible assumption) | exact Below.alloc (by with_reducible assumption) (Below.size (by with_reducible assumption)) _ | go_keep))
  clear hK K
  try simp only [Act.put, List.getElem_toArray, List.getElem_cons_succ, List.getElem_cons_zero, List.setIfInBounds_toArray, List.set_cons_zero, List.set_cons_succ]
  refine wpAnyH_take (i := 23) (v := ?_) rfl (by kernel_rfl) (by kernel_rfl) (by kernel_rfl) (fun _ _ _ h => h) (Or.inl ⟨by kernel_rfl, ?_⟩) (by assumption) ?_
  rotate_left
  · (intro w hSw; (try dsimp only at hSw); go_simp); (try with_reducible rfl)
  try simp only [Act.put, List.getElem_toArray, List.getElem_cons_succ, List.getElem_cons_zero, List.setIfInBounds_toArray, List.set_cons_zero, List.set_cons_succ]
  refine wpAnyH_take (i := 24) (v := ?_) rfl (by kernel_rfl) (by kernel_rfl) (by kernel_rfl) (fun _ _ _ h => h) (Or.inl ⟨by kernel_rfl, ?_⟩) (by assumption) ?_
  rotate_left
  · (intro w hSw; (try dsimp only at hSw); go_simp); (try with_reducible rfl)
  try simp only [Act.put, List.getElem_toArray, List.getElem_cons_succ, List.getElem_cons_zero, List.setIfInBounds_toArray, List.set_cons_zero, List.set_cons_succ]
  refine wpAnyH_take (i := 25) (v := ?_) rfl (by kernel_rfl) (by kernel_rfl) (by kernel_rfl) (fun _ _ _ h => h) (Or.inl ⟨by kernel_rfl, ?_⟩) (by assumption) ?_
  rotate_left
  · (intro w hSw; (try dsimp only at hSw); go_simp); (try with_reducible rfl)
  try simp only [Act.put, List.getElem_toArray, List.getElem_cons_succ, List.getElem_cons_zero, List.setIfInBounds_toArray, List.set_cons_zero, List.set_cons_succ]
  refine wpAnyH_take (i := 26) (v := ?_) rfl (by kernel_rfl) (by kernel_rfl) (by kernel_rfl) (fun _ _ _ h => h) (Or.inl ⟨by kernel_rfl, ?_⟩) (by assumption) ?_
  rotate_left
  · (intro w hSw; (try dsimp only at hSw); go_simp); (try with_reducible rfl)
  try simp only [Act.put, List.getElem_toArray, List.getElem_cons_succ, List.getElem_cons_zero, List.setIfInBounds_toArray, List.set_cons_zero, List.set_cons_succ]
  refine wpAnyH_ready (rs := [27]) (by kernel_rfl) (by simp) ?_
  refine AllReadyH.cons rfl (fun K hK => ?_) ?_
  rotate_left
  · exact AllReadyH.nil
  go_simp
  (have hh := ‹_ ∧ Fit _ ∧ Below _ _ _›; obtain ⟨⟨c0, c1, c2, c3, c4, c5, c6, c7⟩, ft, hb⟩ := hh; refine (HX.out _ ft).mono ?_; rintro e wN ⟨rfl, hBN⟩; have c0 := cell_keep hBN c0; have c1 := cell_keep hBN c1; have c2 := cell_keep hBN c2; have c3 := cell_keep hBN c3; have c4 := cell_keep hBN c4; have c5 := cell_keep hBN c5; have c6 := cell_keep hBN c6; have c7 := cell_keep hBN c7; have ft := ft.below hBN; have hb := hb.trans (hBN.mono hb.size); clear hBN; try simp only [sv])
  refine hK.out _ _ ?_ (fun hHeld => ?_)
  · (try dsimp only); (first | with_reducible assumption | ((repeat' apply And.intro) <;> first | with_reducible assumption | with_reducible exact cell_alloc1 _ (by with_reducible assumption) | exact Fit.drew (by with_reducible assumption) | exact Fit.alloc (by with_reducible assumption) _ | exact Below.drew (by with_reducible assumption) | exact Below.alloc (by with_reducible assumption) (Below.size (by with_reducible assumption)) _ | go_keep))
  clear hK K
  try simp only [Act.put, List.getElem_toArray, List.getElem_cons_succ, List.getElem_cons_zero, List.setIfInBounds_toArray, List.set_cons_zero, List.set_cons_succ]
  refine wpAnyH_take (i := 28) (v := ?_) rfl (by kernel_rfl) (by kernel_rfl) (by kernel_rfl) (fun _ _ _ h => h) (Or.inl ⟨by kernel_rfl, ?_⟩) (by assumption) ?_
  rotate_left
  · (intro w hSw; (try dsimp only at hSw); go_simp); (try with_reducible rfl)
  try simp only [Act.put, List.getElem_toArray, List.getElem_cons_succ, List.getElem_cons_zero, List.setIfInBounds_toArray, List.set_cons_zero, List.set_cons_succ]
  refine wpAnyH_take (i := 29) (v := ?_) rfl (by kernel_rfl) (by kernel_rfl) (by kernel_rfl) (fun _ _ _ h => h) (Or.inl ⟨by kernel_rfl, ?_⟩) (by assumption) ?_
  rotate_left
  · (intro w hSw; (try dsimp only at hSw); go_simp); (try with_reducible rfl)
  try simp only [Act.put, List.getElem_toArray, List.getElem_cons_succ, List.getElem_cons_zero, List.setIfInBounds_toArray, List.set_cons_zero, List.set_cons_succ]
  refine wpAnyH_done (by kernel_rfl) ?_ _
  refine NoPanic.normal ?_
  go_wp2
  go_ret
  exact ⟨rfl, by with_reducible assumption⟩

theorem foldF_twice (s : Nat → Bool) (i : Nat) (hi : i < 256) : foldF (foldF s) i = foldF s i := by
  unfold foldF
  rw [oth_oth i hi]
  cases s i <;> cases s (oth i) <;> rfl

/-- **SetFolds: true, whatever the set and the byte.** -/
theorem setFoldsW (s : Nat → Bool) (b : Nat) (hb : b < 256) (w : World) (hw : Fit w) :
    Calls Tryd.prog 6 #[sv s, .int .u8 b] w fun e w' => e = .returned (.bool true) ∧ Below w.heap.size w w' := by
  have hff : ∀ w, Fit w → Calls Tryd.prog 21 #[sv (foldF s)] w fun e w' => e = .returned (sv (foldF s)) ∧ Below w.heap.size w w' := fun w hw => by
    have := fold_fit (foldF s) w hw
    rwa [sv_congr (foldF_twice s)] at this
  have ho : ∀ (B cap : Nat) w, w.heap[B]? = some (.cells #[.int .u64 (wd s 0), .int .u64 (wd s 1), .int .u64 (wd s 2), .int .u64 (wd s 3), .int .u64 (wd (foldF s) 0), .int .u64 (wd (foldF s) 1), .int .u64 (wd (foldF s) 2), .int .u64 (wd (foldF s) 3)] 24 (0, 0)) → Calls Tryd.prog 17 #[.slice (some ⟨B, 0, none⟩) 2 cap] w fun e w' => e = .returned (sv (foldF s)) ∧ Below w.heap.size w w' := fun B cap w h => by
    have := or2_c s (foldF s) B cap w 24 h
    rwa [show (fun i => s i || foldF s i) = foldF s from funext fun i => by unfold foldF; cases s i <;> simp] at this
  by_cases h1 : 65 ≤ b
  · by_cases h2 : b ≤ 90
    · have e1 : oth b = b + 32 := by rw [oth, if_pos ⟨h1, h2⟩]
      have e2 : oth (b + 32) = b := by rw [← e1, oth_oth b hb]
      have e3 : foldF s (b + 32) = foldF s b := by
        unfold foldF
        rw [e1, e2, Bool.or_comm]
      refine folds_yes b hb s (foldF s) (foldF s b) h1 h2 (fun w hw => fold_fit s w hw) hff ho (fun w => has_c (foldF s) b hb w) (fun w => ?_) w hw
      have := has_c (foldF s) (b + 32) (by omega) w
      rw [e3] at this
      simpa using this
    · exact folds_no2 b hb s (foldF s) h1 h2 (fun w hw => fold_fit s w hw) hff ho w hw
  · exact folds_no1 b hb s (foldF s) h1 (fun w hw => fold_fit s w hw) hff ho w hw

end Go.Proofs.YtdcekdjpbkchmaaDoor
