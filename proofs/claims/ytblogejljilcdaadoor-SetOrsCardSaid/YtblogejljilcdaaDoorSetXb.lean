/- SetOrs: the walk. -/
import Derived.Test.YtblogejljilcdaaDoorSetZ
namespace Go.Proofs.YtblogejljilcdaaDoor
open Go.RowKit
set_option linter.unusedVariables false
set_option linter.unusedSimpArgs false


set_option maxHeartbeats 100000000 in
set_option maxRecDepth 100000 in
theorem ors_b (b : Nat) (hb : b < 256) (s t u m n o q : Nat → Bool) (z zs zt zq : Int) (hz : zs + zt = z + zq) (hz0 : 0 ≤ z) (hz1 : z ≤ 256) (hz2 : 0 ≤ zq) (hz3 : zq ≤ 256)
    (ho1 : ∀ (B cap : Nat) w, w.heap[B]? = some (.cells #[.int .u64 (wd s 0), .int .u64 (wd s 1), .int .u64 (wd s 2), .int .u64 (wd s 3), .int .u64 (wd t 0), .int .u64 (wd t 1), .int .u64 (wd t 2), .int .u64 (wd t 3)] 24 (0, 0)) → Calls Tryd.prog 11 #[.slice (some ⟨B, 0, none⟩) 2 cap] w fun e w' => e = .returned (sv u) ∧ Below w.heap.size w w')
    (ho2 : ∀ (B cap : Nat) w, w.heap[B]? = some (.cells #[.int .u64 (wd t 0), .int .u64 (wd t 1), .int .u64 (wd t 2), .int .u64 (wd t 3), .int .u64 (wd s 0), .int .u64 (wd s 1), .int .u64 (wd s 2), .int .u64 (wd s 3)] 24 (0, 0)) → Calls Tryd.prog 11 #[.slice (some ⟨B, 0, none⟩) 2 cap] w fun e w' => e = .returned (sv u) ∧ Below w.heap.size w w')
    (ho3 : ∀ (B cap : Nat) w, w.heap[B]? = some (.cells #[.int .u64 (wd u 0), .int .u64 (wd u 1), .int .u64 (wd u 2), .int .u64 (wd u 3), .int .u64 (wd s 0), .int .u64 (wd s 1), .int .u64 (wd s 2), .int .u64 (wd s 3)] 24 (0, 0)) → Calls Tryd.prog 11 #[.slice (some ⟨B, 0, none⟩) 2 cap] w fun e w' => e = .returned (sv u) ∧ Below w.heap.size w w')
    (ho4 : ∀ (B cap : Nat) w, w.heap[B]? = some (.cells #[.int .u64 (wd m 0), .int .u64 (wd m 1), .int .u64 (wd m 2), .int .u64 (wd m 3), .int .u64 (wd n 0), .int .u64 (wd n 1), .int .u64 (wd n 2), .int .u64 (wd n 3)] 24 (0, 0)) → Calls Tryd.prog 11 #[.slice (some ⟨B, 0, none⟩) 2 cap] w fun e w' => e = .returned (sv o) ∧ Below w.heap.size w w')
    (hn1 : ∀ w, Calls Tryd.prog 12 #[sv s] w fun e w' => e = .returned (sv m) ∧ Below w.heap.size w w')
    (hn2 : ∀ w, Calls Tryd.prog 12 #[sv t] w fun e w' => e = .returned (sv n) ∧ Below w.heap.size w w')
    (hn3 : ∀ w, Calls Tryd.prog 12 #[sv o] w fun e w' => e = .returned (sv q) ∧ Below w.heap.size w w')
    (h1 : ∀ w, Calls Tryd.prog 13 #[sv u, .int .u8 b] w fun e w' => e = .returned (.bool true) ∧ Below w.heap.size w w')
    (h2 : ∀ w, Calls Tryd.prog 13 #[sv s, .int .u8 b] w fun e w' => e = .returned (.bool false) ∧ Below w.heap.size w w')
    (h3 : ∀ w, Calls Tryd.prog 13 #[sv t, .int .u8 b] w fun e w' => e = .returned (.bool true) ∧ Below w.heap.size w w')
    (g1 : ∀ w, Calls Tryd.prog 14 #[sv u] w fun e w' => e = .returned (.int .i64 z) ∧ Below w.heap.size w w')
    (g2 : ∀ w, Calls Tryd.prog 14 #[sv s] w fun e w' => e = .returned (.int .i64 zs) ∧ Below w.heap.size w w')
    (g3 : ∀ w, Calls Tryd.prog 14 #[sv t] w fun e w' => e = .returned (.int .i64 zt) ∧ Below w.heap.size w w')
    (g4 : ∀ w, Calls Tryd.prog 14 #[sv q] w fun e w' => e = .returned (.int .i64 zq) ∧ Below w.heap.size w w')
    (w : World) (hw : Fit w) :
    Calls Tryd.prog 3 #[sv s, sv t, .int .u8 b] w fun e w' => e = .returned (.bool true) ∧ Below w.heap.size w w' := by
  have HO1 := Lib.hid ho1; have HO2 := Lib.hid ho2; have HO3 := Lib.hid ho3; have HO4 := Lib.hid ho4; have N1 := Lib.hid hn1; have N2 := Lib.hid hn2; have N3 := Lib.hid hn3
  have H1 := Lib.hid h1; have H2 := Lib.hid h2; have H3 := Lib.hid h3; have G1 := Lib.hid g1; have G2 := Lib.hid g2; have G3 := Lib.hid g3; have G4 := Lib.hid g4; have HX := Lib.hid (fun w hw => shown_c w hw)
  clear ho1 ho2 ho3 ho4 hn1 hn2 hn3 h1 h2 h3 g1 g2 g3 g4
  unfold sv
  go_enter Tryd.func3, Tryd.ntmps3
  go_wp2_with fail
  have S0 := (Four.new w 24 (.int .u64 (wd s 0)) (.int .u64 (wd s 1)) (.int .u64 (wd s 2)) (.int .u64 (wd s 3))).alloc (.cells #[.int .u64 (wd t 0), .int .u64 (wd t 1), .int .u64 (wd t 2), .int .u64 (wd t 3)] 24)
  have T0 := Four.new (w.alloc (.cells #[.int .u64 (wd s 0), .int .u64 (wd s 1), .int .u64 (wd s 2), .int .u64 (wd s 3)] 24)) 24 (.int .u64 (wd t 0)) (.int .u64 (wd t 1)) (.int .u64 (wd t 2)) (.int .u64 (wd t 3))
  rw [World.size_alloc] at T0
  have f0 := (hw.alloc (.cells #[.int .u64 (wd s 0), .int .u64 (wd s 1), .int .u64 (wd s 2), .int .u64 (wd s 3)] 24)).alloc (.cells #[.int .u64 (wd t 0), .int .u64 (wd t 1), .int .u64 (wd t 2), .int .u64 (wd t 3)] 24)
  have b0 : Below w.heap.size w ((w.alloc (.cells #[.int .u64 (wd s 0), .int .u64 (wd s 1), .int .u64 (wd s 2), .int .u64 (wd s 3)] 24)).alloc (.cells #[.int .u64 (wd t 0), .int .u64 (wd t 1), .int .u64 (wd t 2), .int .u64 (wd t 3)] 24)) := ((Below.refl _ w).alloc (Nat.le_refl _) _).alloc (by simp) _
  have S0 := S0.alloc (.cells #[.int .u64 (wd s 0), .int .u64 (wd s 1), .int .u64 (wd s 2), .int .u64 (wd s 3), .int .u64 (wd t 0), .int .u64 (wd t 1), .int .u64 (wd t 2), .int .u64 (wd t 3)] 24)
  have T0 := T0.alloc (.cells #[.int .u64 (wd s 0), .int .u64 (wd s 1), .int .u64 (wd s 2), .int .u64 (wd s 3), .int .u64 (wd t 0), .int .u64 (wd t 1), .int .u64 (wd t 2), .int .u64 (wd t 3)] 24)
  have f0 := f0.alloc (.cells #[.int .u64 (wd s 0), .int .u64 (wd s 1), .int .u64 (wd s 2), .int .u64 (wd s 3), .int .u64 (wd t 0), .int .u64 (wd t 1), .int .u64 (wd t 2), .int .u64 (wd t 3)] 24)
  have b0 := b0.alloc (B := w.heap.size) (by simp; omega) (.cells #[.int .u64 (wd s 0), .int .u64 (wd s 1), .int .u64 (wd s 2), .int .u64 (wd s 3), .int .u64 (wd t 0), .int .u64 (wd t 1), .int .u64 (wd t 2), .int .u64 (wd t 3)] 24)
  refine (HO1.out (w.heap.size + 1 + 1) _ _ (by have := heap_new ((w.alloc (.cells #[.int .u64 (wd s 0), .int .u64 (wd s 1), .int .u64 (wd s 2), .int .u64 (wd s 3)] 24)).alloc (.cells #[.int .u64 (wd t 0), .int .u64 (wd t 1), .int .u64 (wd t 2), .int .u64 (wd t 3)] 24)) (.cells #[.int .u64 (wd s 0), .int .u64 (wd s 1), .int .u64 (wd s 2), .int .u64 (wd s 3), .int .u64 (wd t 0), .int .u64 (wd t 1), .int .u64 (wd t 2), .int .u64 (wd t 3)] 24); simpa using this)).mono ?_
  rintro e w1 ⟨rfl, hB1⟩
  have S1 := S0.below hB1 S0.lt
  have T1 := T0.below hB1 T0.lt
  have hlt := S1.lt
  have hltt := T1.lt
  have f1 := f0.below hB1
  have b1 := b0.trans (hB1.mono b0.size)
  have U1 := Four.new w1 24 (.int .u64 (wd u 0)) (.int .u64 (wd u 1)) (.int .u64 (wd u 2)) (.int .u64 (wd u 3))
  have S1' := S1.alloc (.cells #[.int .u64 (wd u 0), .int .u64 (wd u 1), .int .u64 (wd u 2), .int .u64 (wd u 3)] 24)
  have T1' := T1.alloc (.cells #[.int .u64 (wd u 0), .int .u64 (wd u 1), .int .u64 (wd u 2), .int .u64 (wd u 3)] 24)
  have f1' := f1.alloc (.cells #[.int .u64 (wd u 0), .int .u64 (wd u 1), .int .u64 (wd u 2), .int .u64 (wd u 3)] 24)
  have b1' : Below w.heap.size w (w1.alloc (.cells #[.int .u64 (wd u 0), .int .u64 (wd u 1), .int .u64 (wd u 2), .int .u64 (wd u 3)] 24)) := b1.alloc b1.size _
  clear S0 T0 f0 b0 hB1 f1 b1 S1 T1
  simp only [sv]
  go_wp2_with fail
  have S1dc0 := S1'.c0; have S1dc1 := S1'.c1; have S1dc2 := S1'.c2; have S1dc3 := S1'.c3
  have T1dc0 := T1'.c0; have T1dc1 := T1'.c1; have T1dc2 := T1'.c2; have T1dc3 := T1'.c3
  have U1c0 := U1.c0; have U1c1 := U1.c1; have U1c2 := U1.c2; have U1c3 := U1.c3
  rename_i Q K hQ
  have hrest : ∀ (p : Nat) (c : Value) (W : World), ((W.cell? ⟨w.heap.size, 0, none⟩ = some (.int .u64 (wd s 0)) ∧ W.cell? ⟨w.heap.size, 1, none⟩ = some (.int .u64 (wd s 1)) ∧ W.cell? ⟨w.heap.size, 2, none⟩ = some (.int .u64 (wd s 2)) ∧ W.cell? ⟨w.heap.size, 3, none⟩ = some (.int .u64 (wd s 3)) ∧ W.cell? ⟨(w.heap.size + 1), 0, none⟩ = some (.int .u64 (wd t 0)) ∧ W.cell? ⟨(w.heap.size + 1), 1, none⟩ = some (.int .u64 (wd t 1)) ∧ W.cell? ⟨(w.heap.size + 1), 2, none⟩ = some (.int .u64 (wd t 2)) ∧ W.cell? ⟨(w.heap.size + 1), 3, none⟩ = some (.int .u64 (wd t 3)) ∧ W.cell? ⟨w1.heap.size, 0, none⟩ = some (.int .u64 (wd u 0)) ∧ W.cell? ⟨w1.heap.size, 1, none⟩ = some (.int .u64 (wd u 1)) ∧ W.cell? ⟨w1.heap.size, 2, none⟩ = some (.int .u64 (wd u 2)) ∧ W.cell? ⟨w1.heap.size, 3, none⟩ = some (.int .u64 (wd u 3))) ∧ Fit W ∧ Below w.heap.size w W) → Four W p 24 (.int .u64 (wd q 0)) (.int .u64 (wd q 1)) (.int .u64 (wd q 2)) (.int .u64 (wd q 3)) → K { tmps := #[.agg #[.int .u64 (wd s 0), .int .u64 (wd s 1), .int .u64 (wd s 2), .int .u64 (wd s 3)], .agg #[.int .u64 (wd t 0), .int .u64 (wd t 1), .int .u64 (wd t 2), .int .u64 (wd t 3)], .int .u8 b, .pointer (some ⟨w.heap.size, 0, none⟩), .pointer (some ⟨w.heap.size + 1, 0, none⟩), undef, .bool false, .pointer (some ⟨w1.heap.size, 0, none⟩), .pointer (some ⟨p, 0, none⟩), .agg #[.int .u64 (wd s 0), .int .u64 (wd s 1), .int .u64 (wd s 2), .int .u64 (wd s 3)], .agg #[.int .u64 (wd t 0), .int .u64 (wd t 1), .int .u64 (wd t 2), .int .u64 (wd t 3)], .slice (some ⟨w.heap.size + 1 + 1, 0, none⟩) 2 2, .agg #[.int .u64 (wd u 0), .int .u64 (wd u 1), .int .u64 (wd u 2), .int .u64 (wd u 3)], .agg #[.int .u64 (wd s 0), .int .u64 (wd s 1), .int .u64 (wd s 2), .int .u64 (wd s 3)], .agg #[.int .u64 (wd m 0), .int .u64 (wd m 1), .int .u64 (wd m 2), .int .u64 (wd m 3)], .agg #[.int .u64 (wd t 0), .int .u64 (wd t 1), .int .u64 (wd t 2), .int .u64 (wd t 3)], .agg #[.int .u64 (wd n 0), .int .u64 (wd n 1), .int .u64 (wd n 2), .int .u64 (wd n 3)], c, .agg #[.int .u64 (wd o 0), .int .u64 (wd o 1), .int .u64 (wd o 2), .int .u64 (wd o 3)], .agg #[.int .u64 (wd q 0), .int .u64 (wd q 1), .int .u64 (wd q 2), .int .u64 (wd q 3)], undef, undef, undef, undef, undef, undef, undef, undef, undef, undef, undef, undef, undef, undef, undef, undef, undef, undef, undef, undef, undef, undef, undef, undef, undef, undef, undef, undef, undef, undef, undef, undef, undef, undef, undef, undef, undef, undef, undef, undef, undef, undef, undef, undef], defers := [] } W := by
    intro p c W hS0 Z
    refine hQ _ _ ?_
    obtain ⟨⟨c0, c1, c2, c3, c4, c5, c6, c7, c8, c9, c10, c11⟩, ft, hb⟩ := hS0
    have zc0 := Z.c0; have zc1 := Z.c1; have zc2 := Z.c2; have zc3 := Z.c3
    have hqu := eq_set u
    have hz5 : IntKind.i64.wrap (zs + zt) = z + zq := by rw [hz]; simp [IntKind.wrap, IntKind.signed, IntKind.bits]; omega
    have hz6 : IntKind.i64.wrap (z + zq - zq) = z := by simp [IntKind.wrap, IntKind.signed, IntKind.bits]; omega
    have hz7 : IntKind.i64.wrap (z + zq) = z + zq := by simp [IntKind.wrap, IntKind.signed, IntKind.bits]; omega
    have hz8 : IntKind.i64.wrap z = z := by simp [IntKind.wrap, IntKind.signed, IntKind.bits]; omega
    go_wp2_with fail
    refine wp_region_noPanic ?_
    refine wp_region_held_drew (S := fun w' => (w'.cell? ⟨w.heap.size, 0, none⟩ = some (.int .u64 (wd s 0)) ∧ w'.cell? ⟨w.heap.size, 1, none⟩ = some (.int .u64 (wd s 1)) ∧ w'.cell? ⟨w.heap.size, 2, none⟩ = some (.int .u64 (wd s 2)) ∧ w'.cell? ⟨w.heap.size, 3, none⟩ = some (.int .u64 (wd s 3)) ∧ w'.cell? ⟨(w.heap.size + 1), 0, none⟩ = some (.int .u64 (wd t 0)) ∧ w'.cell? ⟨(w.heap.size + 1), 1, none⟩ = some (.int .u64 (wd t 1)) ∧ w'.cell? ⟨(w.heap.size + 1), 2, none⟩ = some (.int .u64 (wd t 2)) ∧ w'.cell? ⟨(w.heap.size + 1), 3, none⟩ = some (.int .u64 (wd t 3)) ∧ w'.cell? ⟨w1.heap.size, 0, none⟩ = some (.int .u64 (wd u 0)) ∧ w'.cell? ⟨w1.heap.size, 1, none⟩ = some (.int .u64 (wd u 1)) ∧ w'.cell? ⟨w1.heap.size, 2, none⟩ = some (.int .u64 (wd u 2)) ∧ w'.cell? ⟨w1.heap.size, 3, none⟩ = some (.int .u64 (wd u 3)) ∧ w'.cell? ⟨p, 0, none⟩ = some (.int .u64 (wd q 0)) ∧ w'.cell? ⟨p, 1, none⟩ = some (.int .u64 (wd q 1)) ∧ w'.cell? ⟨p, 2, none⟩ = some (.int .u64 (wd q 2)) ∧ w'.cell? ⟨p, 3, none⟩ = some (.int .u64 (wd q 3))) ∧ Fit w' ∧ Below w.heap.size w w') (by kernel_rfl) ?_ (fun hHeld => ?_)
    · (try dsimp only); exact ⟨⟨c0, c1, c2, c3, c4, c5, c6, c7, c8, c9, c10, c11, zc0, zc1, zc2, zc3⟩, ft.drew, hb.drew⟩
    refine wpAnyH_take (i := 0) (v := ?_) rfl (by kernel_rfl) (by kernel_rfl) (by kernel_rfl) (fun _ _ _ h => h) (Or.inl ⟨by kernel_rfl, ?_⟩) (by assumption) ?_
    rotate_left
    · (intro w hSw; (try dsimp only at hSw); go_simp); (try with_reducible rfl)
    try simp only [Act.put, List.getElem_toArray, List.getElem_cons_succ, List.getElem_cons_zero, List.setIfInBounds_toArray, List.set_cons_zero, List.set_cons_succ]
    refine wpAnyH_take (i := 1) (v := ?_) rfl (by kernel_rfl) (by kernel_rfl) (by kernel_rfl) (fun _ _ _ h => h) (Or.inl ⟨by kernel_rfl, ?_⟩) (by assumption) ?_
    rotate_left
    · (intro w hSw; (try dsimp only at hSw); go_simp); (try with_reducible rfl)
    try simp only [Act.put, List.getElem_toArray, List.getElem_cons_succ, List.getElem_cons_zero, List.setIfInBounds_toArray, List.set_cons_zero, List.set_cons_succ]
    refine wpAnyH_take (i := 2) (v := ?_) rfl (by kernel_rfl) (by kernel_rfl) (by kernel_rfl) (fun _ _ _ h => h) (Or.inl ⟨by kernel_rfl, ?_⟩) (by assumption) ?_
    rotate_left
    · (intro w hSw; (try dsimp only at hSw); go_simp); (try with_reducible rfl)
    try simp only [Act.put, List.getElem_toArray, List.getElem_cons_succ, List.getElem_cons_zero, List.setIfInBounds_toArray, List.set_cons_zero, List.set_cons_succ]
    refine wpAnyH_ready (rs := [3]) (by kernel_rfl) (by simp) ?_
    refine AllReadyH.cons rfl (fun K hK => ?_) ?_
    rotate_left
    · exact AllReadyH.nil
    go_simp
    obtain ⟨⟨c0, c1, c2, c3, c4, c5, c6, c7, c8, c9, c10, c11, c12, c13, c14, c15⟩, ft, hb⟩ := hHeld
    refine hK.out _ _ ?_ (fun hHeld => ?_)
    · (try dsimp only); (first | with_reducible assumption | ((repeat' apply And.intro) <;> first | with_reducible assumption | with_reducible exact cell_alloc1 _ (by with_reducible assumption) | exact Fit.drew (by with_reducible assumption) | exact Fit.alloc (by with_reducible assumption) _ | exact Below.drew (by with_reducible assumption) | exact Below.alloc (by with_reducible assumption) (Below.size (by with_reducible assumption)) _ | go_keep))
    clear hK K
    try simp only [Act.put, List.getElem_toArray, List.getElem_cons_succ, List.getElem_cons_zero, List.setIfInBounds_toArray, List.set_cons_zero, List.set_cons_succ]
    refine wpAnyH_ready (rs := [4]) (by kernel_rfl) (by simp) ?_
    refine AllReadyH.cons rfl (fun K hK => ?_) ?_
    rotate_left
    · exact AllReadyH.nil
    go_simp
    (have hh := ‹_ ∧ Fit _ ∧ Below _ _ _›; obtain ⟨⟨c0, c1, c2, c3, c4, c5, c6, c7, c8, c9, c10, c11, c12, c13, c14, c15⟩, ft, hb⟩ := hh; refine (HO2.out _ _ _ (by first | exact heap_new W.drew _ | exact heap_new wN _ | exact heap_new _ _ | (have := heap_new wN (.cells #[.int .u64 (wd t 0), .int .u64 (wd t 1), .int .u64 (wd t 2), .int .u64 (wd t 3), .int .u64 (wd s 0), .int .u64 (wd s 1), .int .u64 (wd s 2), .int .u64 (wd s 3)] 24); first | simpa using this | (trace_state; fail)))).mono ?_; rintro e wN ⟨rfl, hBN⟩; have c0 := cell_keep hBN c0; have c1 := cell_keep hBN c1; have c2 := cell_keep hBN c2; have c3 := cell_keep hBN c3; have c4 := cell_keep hBN c4; have c5 := cell_keep hBN c5; have c6 := cell_keep hBN c6; have c7 := cell_keep hBN c7; have c8 := cell_keep hBN c8; have c9 := cell_keep hBN c9; have c10 := cell_keep hBN c10; have c11 := cell_keep hBN c11; have c12 := cell_keep hBN c12; have c13 := cell_keep hBN c13; have c14 := cell_keep hBN c14; have c15 := cell_keep hBN c15; have ft := ft.below hBN; have hb := hb.trans (hBN.mono hb.size); clear hBN; try simp only [sv])
    refine hK.out _ _ ?_ (fun hHeld => ?_)
    · (try dsimp only); (first | with_reducible assumption | ((repeat' apply And.intro) <;> first | with_reducible assumption | with_reducible exact cell_alloc1 _ (by with_reducible assumption) | exact Fit.drew (by with_reducible assumption) | exact Fit.alloc (by with_reducible assumption) _ | exact Below.drew (by with_reducible assumption) | exact Below.alloc (by with_reducible assumption) (Below.size (by with_reducible assumption)) _ | go_keep))
    clear hK K
    try simp only [Act.put, List.getElem_toArray, List.getElem_cons_succ, List.getElem_cons_zero, List.setIfInBounds_toArray, List.set_cons_zero, List.set_cons_succ]
    refine wpAnyH_take (i := 5) (v := ?_) rfl (by kernel_rfl) (by kernel_rfl) (by kernel_rfl) (fun _ _ _ h => h) (Or.inl ⟨by kernel_rfl, ?_⟩) (by assumption) ?_
    rotate_left
    · (intro w hSw; (try dsimp only at hSw); go_simp); (try with_reducible rfl)
    try simp only [Act.put, List.getElem_toArray, List.getElem_cons_succ, List.getElem_cons_zero, List.setIfInBounds_toArray, List.set_cons_zero, List.set_cons_succ]
    refine wpAnyH_take (i := 6) (v := ?_) rfl (by kernel_rfl) (by kernel_rfl) (by kernel_rfl) (fun _ _ _ h => h) (Or.inl ⟨by kernel_rfl, ?_⟩) (by assumption) ?_
    rotate_left
    · (intro w hSw; (try dsimp only at hSw); go_simp); (try with_reducible rfl)
    try simp only [Act.put, List.getElem_toArray, List.getElem_cons_succ, List.getElem_cons_zero, List.setIfInBounds_toArray, List.set_cons_zero, List.set_cons_succ]
    refine wpAnyH_take (i := 7) (v := ?_) rfl (by kernel_rfl) (by kernel_rfl) (by kernel_rfl) (fun _ _ _ h => h) (Or.inl ⟨by kernel_rfl, ?_⟩) (by assumption) ?_
    rotate_left
    · (intro w hSw; (try dsimp only at hSw); go_simp); (try with_reducible rfl)
    try simp only [Act.put, List.getElem_toArray, List.getElem_cons_succ, List.getElem_cons_zero, List.setIfInBounds_toArray, List.set_cons_zero, List.set_cons_succ]
    refine wpAnyH_take (i := 8) (v := ?_) rfl (by kernel_rfl) (by kernel_rfl) (by kernel_rfl) (fun _ _ _ h => h) (Or.inl ⟨by kernel_rfl, ?_⟩) (by assumption) ?_
    rotate_left
    · (intro w hSw; (try dsimp only at hSw); go_simp); (try with_reducible rfl)
    try simp only [Act.put, List.getElem_toArray, List.getElem_cons_succ, List.getElem_cons_zero, List.setIfInBounds_toArray, List.set_cons_zero, List.set_cons_succ]
    refine wpAnyH_take (i := 11) (v := ?_) rfl (by kernel_rfl) (by kernel_rfl) (by kernel_rfl) (fun _ _ _ h => h) (Or.inl ⟨by kernel_rfl, ?_⟩) (by assumption) ?_
    rotate_left
    · (intro w hSw; (try dsimp only at hSw); go_simp); (try with_reducible rfl)
    try simp only [Act.put, List.getElem_toArray, List.getElem_cons_succ, List.getElem_cons_zero, List.setIfInBounds_toArray, List.set_cons_zero, List.set_cons_succ]
    refine wpAnyH_ready (rs := [9]) (by kernel_rfl) (by simp) ?_
    refine AllReadyH.cons rfl (fun K hK => ?_) ?_
    rotate_left
    · exact AllReadyH.nil
    go_simp
    refine hK.out _ _ ?_ (fun hHeld => ?_)
    · (try dsimp only); (first | with_reducible assumption | ((repeat' apply And.intro) <;> first | with_reducible assumption | with_reducible exact cell_alloc1 _ (by with_reducible assumption) | exact Fit.drew (by with_reducible assumption) | exact Fit.alloc (by with_reducible assumption) _ | exact Below.drew (by with_reducible assumption) | exact Below.alloc (by with_reducible assumption) (Below.size (by with_reducible assumption)) _ | go_keep))
    clear hK K
    try simp only [Act.put, List.getElem_toArray, List.getElem_cons_succ, List.getElem_cons_zero, List.setIfInBounds_toArray, List.set_cons_zero, List.set_cons_succ]
    refine wpAnyH_ready (rs := [10]) (by kernel_rfl) (by simp) ?_
    refine AllReadyH.cons rfl (fun K hK => ?_) ?_
    rotate_left
    · exact AllReadyH.nil
    go_simp
    (have hh := ‹_ ∧ Fit _ ∧ Below _ _ _›; obtain ⟨⟨c0, c1, c2, c3, c4, c5, c6, c7, c8, c9, c10, c11, c12, c13, c14, c15⟩, ft, hb⟩ := hh; refine (HO3.out _ _ _ (by first | exact heap_new W.drew _ | exact heap_new wN _ | exact heap_new _ _ | (have := heap_new wN (.cells #[.int .u64 (wd u 0), .int .u64 (wd u 1), .int .u64 (wd u 2), .int .u64 (wd u 3), .int .u64 (wd s 0), .int .u64 (wd s 1), .int .u64 (wd s 2), .int .u64 (wd s 3)] 24); first | simpa using this | (trace_state; fail)))).mono ?_; rintro e wN ⟨rfl, hBN⟩; have c0 := cell_keep hBN c0; have c1 := cell_keep hBN c1; have c2 := cell_keep hBN c2; have c3 := cell_keep hBN c3; have c4 := cell_keep hBN c4; have c5 := cell_keep hBN c5; have c6 := cell_keep hBN c6; have c7 := cell_keep hBN c7; have c8 := cell_keep hBN c8; have c9 := cell_keep hBN c9; have c10 := cell_keep hBN c10; have c11 := cell_keep hBN c11; have c12 := cell_keep hBN c12; have c13 := cell_keep hBN c13; have c14 := cell_keep hBN c14; have c15 := cell_keep hBN c15; have ft := ft.below hBN; have hb := hb.trans (hBN.mono hb.size); clear hBN; try simp only [sv])
    refine hK.out _ _ ?_ (fun hHeld => ?_)
    · (try dsimp only); (first | with_reducible assumption | ((repeat' apply And.intro) <;> first | with_reducible assumption | with_reducible exact cell_alloc1 _ (by with_reducible assumption) | exact Fit.drew (by with_reducible assumption) | exact Fit.alloc (by with_reducible assumption) _ | exact Below.drew (by with_reducible assumption) | exact Below.alloc (by with_reducible assumption) (Below.size (by with_reducible assumption)) _ | go_keep))
    clear hK K
    try simp only [Act.put, List.getElem_toArray, List.getElem_cons_succ, List.getElem_cons_zero, List.setIfInBounds_toArray, List.set_cons_zero, List.set_cons_succ]
    refine wpAnyH_take (i := 12) (v := ?_) rfl (by kernel_rfl) (by kernel_rfl) (by kernel_rfl) (fun _ _ _ h => h) (Or.inl ⟨by kernel_rfl, ?_⟩) (by assumption) ?_
    rotate_left
    · (intro w hSw; (try dsimp only at hSw); go_simp); (try with_reducible rfl)
    try simp only [Act.put, List.getElem_toArray, List.getElem_cons_succ, List.getElem_cons_zero, List.setIfInBounds_toArray, List.set_cons_zero, List.set_cons_succ]
    refine wpAnyH_take (i := 13) (v := ?_) rfl (by kernel_rfl) (by kernel_rfl) (by kernel_rfl) (fun _ _ _ h => h) (Or.inl ⟨by kernel_rfl, ?_⟩) (by assumption) ?_
    rotate_left
    · (intro w hSw; (try dsimp only at hSw); go_simp); (try with_reducible rfl)
    try simp only [Act.put, List.getElem_toArray, List.getElem_cons_succ, List.getElem_cons_zero, List.setIfInBounds_toArray, List.set_cons_zero, List.set_cons_succ]
    refine wpAnyH_take (i := 14) (v := ?_) rfl (by kernel_rfl) (by kernel_rfl) (by kernel_rfl) (fun _ _ _ h => h) (Or.inl ⟨by kernel_rfl, ?_⟩) (by assumption) ?_
    rotate_left
    · (intro w hSw; (try dsimp only at hSw); go_simp); (try with_reducible rfl)
    try simp only [Act.put, List.getElem_toArray, List.getElem_cons_succ, List.getElem_cons_zero, List.setIfInBounds_toArray, List.set_cons_zero, List.set_cons_succ]
    refine wpAnyH_take (i := 15) (v := ?_) rfl (by kernel_rfl) (by kernel_rfl) (by kernel_rfl) (fun _ _ _ h => h) (Or.inl ⟨by kernel_rfl, ?_⟩) (by assumption) ?_
    rotate_left
    · (intro w hSw; (try dsimp only at hSw); go_simp); (try with_reducible rfl)
    try simp only [Act.put, List.getElem_toArray, List.getElem_cons_succ, List.getElem_cons_zero, List.setIfInBounds_toArray, List.set_cons_zero, List.set_cons_succ]
    refine wpAnyH_take (i := 16) (v := ?_) rfl (by kernel_rfl) (by kernel_rfl) (by kernel_rfl) (fun _ _ _ h => h) (Or.inl ⟨by kernel_rfl, ?_⟩) (by assumption) ?_
    rotate_left
    · (intro w hSw; (try dsimp only at hSw); go_simp); (try with_reducible rfl)
    try simp only [Act.put, List.getElem_toArray, List.getElem_cons_succ, List.getElem_cons_zero, List.setIfInBounds_toArray, List.set_cons_zero, List.set_cons_succ]
    refine wpAnyH_take (i := 18) (v := ?_) rfl (by kernel_rfl) (by kernel_rfl) (by kernel_rfl) (fun _ _ _ h => h) (Or.inl ⟨by kernel_rfl, ?_⟩) (by assumption) ?_
    rotate_left
    · (intro w hSw; (try dsimp only at hSw); go_simp); (try with_reducible rfl)
    try simp only [Act.put, List.getElem_toArray, List.getElem_cons_succ, List.getElem_cons_zero, List.setIfInBounds_toArray, List.set_cons_zero, List.set_cons_succ]
    refine wpAnyH_take (i := 19) (v := ?_) rfl (by kernel_rfl) (by kernel_rfl) (by kernel_rfl) (fun _ _ _ h => h) (Or.inl ⟨by kernel_rfl, ?_⟩) (by assumption) ?_
    rotate_left
    · (intro w hSw; (try dsimp only at hSw); go_simp); (try with_reducible rfl)
    try simp only [Act.put, List.getElem_toArray, List.getElem_cons_succ, List.getElem_cons_zero, List.setIfInBounds_toArray, List.set_cons_zero, List.set_cons_succ]
    refine wpAnyH_ready (rs := [17]) (by kernel_rfl) (by simp) ?_
    refine AllReadyH.cons rfl (fun K hK => ?_) ?_
    rotate_left
    · exact AllReadyH.nil
    go_simp
    (have hh := ‹_ ∧ Fit _ ∧ Below _ _ _›; obtain ⟨⟨c0, c1, c2, c3, c4, c5, c6, c7, c8, c9, c10, c11, c12, c13, c14, c15⟩, ft, hb⟩ := hh; refine (H1.out _).mono ?_; rintro e wN ⟨rfl, hBN⟩; have c0 := cell_keep hBN c0; have c1 := cell_keep hBN c1; have c2 := cell_keep hBN c2; have c3 := cell_keep hBN c3; have c4 := cell_keep hBN c4; have c5 := cell_keep hBN c5; have c6 := cell_keep hBN c6; have c7 := cell_keep hBN c7; have c8 := cell_keep hBN c8; have c9 := cell_keep hBN c9; have c10 := cell_keep hBN c10; have c11 := cell_keep hBN c11; have c12 := cell_keep hBN c12; have c13 := cell_keep hBN c13; have c14 := cell_keep hBN c14; have c15 := cell_keep hBN c15; have ft := ft.below hBN; have hb := hb.trans (hBN.mono hb.size); clear hBN; try simp only [sv])
    refine hK.out _ _ ?_ (fun hHeld => ?_)
    · (try dsimp only); (first | with_reducible assumption | ((repeat' apply And.intro) <;> first | with_reducible assumption | with_reducible exact cell_alloc1 _ (by with_reducible assumption) | exact Fit.drew (by with_reducible assumption) | exact Fit.alloc (by with_reducible assumption) _ | exact Below.drew (by with_reducible assumption) | exact Below.alloc (by with_reducible assumption) (Below.size (by with_reducible assumption)) _ | go_keep))
    clear hK K
    try simp only [Act.put, List.getElem_toArray, List.getElem_cons_succ, List.getElem_cons_zero, List.setIfInBounds_toArray, List.set_cons_zero, List.set_cons_succ]
    refine wpAnyH_ready (rs := [20]) (by kernel_rfl) (by simp) ?_
    refine AllReadyH.cons rfl (fun K hK => ?_) ?_
    rotate_left
    · exact AllReadyH.nil
    go_simp
    (have hh := ‹_ ∧ Fit _ ∧ Below _ _ _›; obtain ⟨⟨c0, c1, c2, c3, c4, c5, c6, c7, c8, c9, c10, c11, c12, c13, c14, c15⟩, ft, hb⟩ := hh; refine (H2.out _).mono ?_; rintro e wN ⟨rfl, hBN⟩; have c0 := cell_keep hBN c0; have c1 := cell_keep hBN c1; have c2 := cell_keep hBN c2; have c3 := cell_keep hBN c3; have c4 := cell_keep hBN c4; have c5 := cell_keep hBN c5; have c6 := cell_keep hBN c6; have c7 := cell_keep hBN c7; have c8 := cell_keep hBN c8; have c9 := cell_keep hBN c9; have c10 := cell_keep hBN c10; have c11 := cell_keep hBN c11; have c12 := cell_keep hBN c12; have c13 := cell_keep hBN c13; have c14 := cell_keep hBN c14; have c15 := cell_keep hBN c15; have ft := ft.below hBN; have hb := hb.trans (hBN.mono hb.size); clear hBN; try simp only [sv])
    refine hK.out _ _ ?_ (fun hHeld => ?_)
    · (try dsimp only); (first | with_reducible assumption | ((repeat' apply And.intro) <;> first | with_reducible assumption | with_reducible exact cell_alloc1 _ (by with_reducible assumption) | exact Fit.drew (by with_reducible assumption) | exact Fit.alloc (by with_reducible assumption) _ | exact Below.drew (by with_reducible assumption) | exact Below.alloc (by with_reducible assumption) (Below.size (by with_reducible assumption)) _ | go_keep))
    clear hK K
    try simp only [Act.put, List.getElem_toArray, List.getElem_cons_succ, List.getElem_cons_zero, List.setIfInBounds_toArray, List.set_cons_zero, List.set_cons_succ]
    refine wpAnyH_take (i := 21) (v := ?_) rfl (by kernel_rfl) (by kernel_rfl) (by kernel_rfl) (fun _ _ _ h => h) (Or.inl ⟨by kernel_rfl, ?_⟩) (by assumption) ?_
    rotate_left
    · (intro w hSw; (try dsimp only at hSw); go_simp); (try with_reducible rfl)
    try simp only [Act.put, List.getElem_toArray, List.getElem_cons_succ, List.getElem_cons_zero, List.setIfInBounds_toArray, List.set_cons_zero, List.set_cons_succ]
    refine wpAnyH_take (i := 22) (v := ?_) rfl (by kernel_rfl) (by kernel_rfl) (by kernel_rfl) (fun _ _ _ h => h) (Or.inl ⟨by kernel_rfl, ?_⟩) (by assumption) ?_
    rotate_left
    · (intro w hSw; (try dsimp only at hSw); go_simp); (try with_reducible rfl)
    try simp only [Act.put, List.getElem_toArray, List.getElem_cons_succ, List.getElem_cons_zero, List.setIfInBounds_toArray, List.set_cons_zero, List.set_cons_succ]
    refine wpAnyH_take (i := 23) (v := ?_) rfl (by kernel_rfl) (by kernel_rfl) (by kernel_rfl) (fun _ _ _ h => h) (Or.inl ⟨by kernel_rfl, ?_⟩) (by assumption) ?_
    rotate_left
    · (intro w hSw; (try dsimp only at hSw); go_simp); (try with_reducible rfl)
    try simp only [Act.put, List.getElem_toArray, List.getElem_cons_succ, List.getElem_cons_zero, List.setIfInBounds_toArray, List.set_cons_zero, List.set_cons_succ]
    refine wpAnyH_ready (rs := [24]) (by kernel_rfl) (by simp) ?_
    refine AllReadyH.cons rfl (fun K hK => ?_) ?_
    rotate_left
    · exact AllReadyH.nil
    go_simp
    (have hh := ‹_ ∧ Fit _ ∧ Below _ _ _›; obtain ⟨⟨c0, c1, c2, c3, c4, c5, c6, c7, c8, c9, c10, c11, c12, c13, c14, c15⟩, ft, hb⟩ := hh; refine (H3.out _).mono ?_; rintro e wN ⟨rfl, hBN⟩; have c0 := cell_keep hBN c0; have c1 := cell_keep hBN c1; have c2 := cell_keep hBN c2; have c3 := cell_keep hBN c3; have c4 := cell_keep hBN c4; have c5 := cell_keep hBN c5; have c6 := cell_keep hBN c6; have c7 := cell_keep hBN c7; have c8 := cell_keep hBN c8; have c9 := cell_keep hBN c9; have c10 := cell_keep hBN c10; have c11 := cell_keep hBN c11; have c12 := cell_keep hBN c12; have c13 := cell_keep hBN c13; have c14 := cell_keep hBN c14; have c15 := cell_keep hBN c15; have ft := ft.below hBN; have hb := hb.trans (hBN.mono hb.size); clear hBN; try simp only [sv])
    refine hK.out _ _ ?_ (fun hHeld => ?_)
    · (try dsimp only); (first | with_reducible assumption | ((repeat' apply And.intro) <;> first | with_reducible assumption | with_reducible exact cell_alloc1 _ (by with_reducible assumption) | exact Fit.drew (by with_reducible assumption) | exact Fit.alloc (by with_reducible assumption) _ | exact Below.drew (by with_reducible assumption) | exact Below.alloc (by with_reducible assumption) (Below.size (by with_reducible assumption)) _ | go_keep))
    clear hK K
    try simp only [Act.put, List.getElem_toArray, List.getElem_cons_succ, List.getElem_cons_zero, List.setIfInBounds_toArray, List.set_cons_zero, List.set_cons_succ]
    refine wpAnyH_take (i := 25) (v := ?_) rfl (by kernel_rfl) (by kernel_rfl) (by kernel_rfl) (fun _ _ _ h => h) (Or.inl ⟨by kernel_rfl, ?_⟩) (by assumption) ?_
    rotate_left
    · (intro w hSw; (try dsimp only at hSw); go_simp); (try with_reducible rfl)
    try simp only [Act.put, List.getElem_toArray, List.getElem_cons_succ, List.getElem_cons_zero, List.setIfInBounds_toArray, List.set_cons_zero, List.set_cons_succ]
    refine wpAnyH_take (i := 26) (v := ?_) rfl (by kernel_rfl) (by kernel_rfl) (by kernel_rfl) (fun _ _ _ h => h) (Or.inl ⟨by kernel_rfl, ?_⟩) (by assumption) ?_
    rotate_left
    · (intro w hSw; (try dsimp only at hSw); go_simp); (try with_reducible rfl)
    try simp only [Act.put, List.getElem_toArray, List.getElem_cons_succ, List.getElem_cons_zero, List.setIfInBounds_toArray, List.set_cons_zero, List.set_cons_succ]
    refine wpAnyH_take (i := 27) (v := ?_) rfl (by kernel_rfl) (by kernel_rfl) (by kernel_rfl) (fun _ _ _ h => h) (Or.inl ⟨by kernel_rfl, ?_⟩) (by assumption) ?_
    rotate_left
    · (intro w hSw; (try dsimp only at hSw); go_simp); (try with_reducible rfl)
    try simp only [Act.put, List.getElem_toArray, List.getElem_cons_succ, List.getElem_cons_zero, List.setIfInBounds_toArray, List.set_cons_zero, List.set_cons_succ]
    refine wpAnyH_take (i := 28) (v := ?_) rfl (by kernel_rfl) (by kernel_rfl) (by kernel_rfl) (fun _ _ _ h => h) (Or.inl ⟨by kernel_rfl, ?_⟩) (by assumption) ?_
    rotate_left
    · (intro w hSw; (try dsimp only at hSw); go_simp); (try with_reducible rfl)
    try simp only [Act.put, List.getElem_toArray, List.getElem_cons_succ, List.getElem_cons_zero, List.setIfInBounds_toArray, List.set_cons_zero, List.set_cons_succ]
    refine wpAnyH_take (i := 29) (v := ?_) rfl (by kernel_rfl) (by kernel_rfl) (by kernel_rfl) (fun _ _ _ h => h) (Or.inl ⟨by kernel_rfl, ?_⟩) (by assumption) ?_
    rotate_left
    · (intro w hSw; (try dsimp only at hSw); go_simp); (try with_reducible rfl)
    try simp only [Act.put, List.getElem_toArray, List.getElem_cons_succ, List.getElem_cons_zero, List.setIfInBounds_toArray, List.set_cons_zero, List.set_cons_succ]
    refine wpAnyH_take (i := 31) (v := ?_) rfl (by kernel_rfl) (by kernel_rfl) (by kernel_rfl) (fun _ _ _ h => h) (Or.inl ⟨by kernel_rfl, ?_⟩) (by assumption) ?_
    rotate_left
    · (intro w hSw; (try dsimp only at hSw); go_simp); (try with_reducible rfl)
    try simp only [Act.put, List.getElem_toArray, List.getElem_cons_succ, List.getElem_cons_zero, List.setIfInBounds_toArray, List.set_cons_zero, List.set_cons_succ]
    refine wpAnyH_take (i := 33) (v := ?_) rfl (by kernel_rfl) (by kernel_rfl) (by kernel_rfl) (fun _ _ _ h => h) (Or.inl ⟨by kernel_rfl, ?_⟩) (by assumption) ?_
    rotate_left
    · (intro w hSw; (try dsimp only at hSw); go_simp); (try with_reducible rfl)
    try simp only [Act.put, List.getElem_toArray, List.getElem_cons_succ, List.getElem_cons_zero, List.setIfInBounds_toArray, List.set_cons_zero, List.set_cons_succ]
    refine wpAnyH_take (i := 36) (v := ?_) rfl (by kernel_rfl) (by kernel_rfl) (by kernel_rfl) (fun _ _ _ h => h) (Or.inl ⟨by kernel_rfl, ?_⟩) (by assumption) ?_
    rotate_left
    · (intro w hSw; (try dsimp only at hSw); go_simp); (try with_reducible rfl)
    try simp only [Act.put, List.getElem_toArray, List.getElem_cons_succ, List.getElem_cons_zero, List.setIfInBounds_toArray, List.set_cons_zero, List.set_cons_succ]
    refine wpAnyH_ready (rs := [30]) (by kernel_rfl) (by simp) ?_
    refine AllReadyH.cons rfl (fun K hK => ?_) ?_
    rotate_left
    · exact AllReadyH.nil
    go_simp
    (have hh := ‹_ ∧ Fit _ ∧ Below _ _ _›; obtain ⟨⟨c0, c1, c2, c3, c4, c5, c6, c7, c8, c9, c10, c11, c12, c13, c14, c15⟩, ft, hb⟩ := hh; refine (G1.out _).mono ?_; rintro e wN ⟨rfl, hBN⟩; have c0 := cell_keep hBN c0; have c1 := cell_keep hBN c1; have c2 := cell_keep hBN c2; have c3 := cell_keep hBN c3; have c4 := cell_keep hBN c4; have c5 := cell_keep hBN c5; have c6 := cell_keep hBN c6; have c7 := cell_keep hBN c7; have c8 := cell_keep hBN c8; have c9 := cell_keep hBN c9; have c10 := cell_keep hBN c10; have c11 := cell_keep hBN c11; have c12 := cell_keep hBN c12; have c13 := cell_keep hBN c13; have c14 := cell_keep hBN c14; have c15 := cell_keep hBN c15; have ft := ft.below hBN; have hb := hb.trans (hBN.mono hb.size); clear hBN; try simp only [sv])
    refine hK.out _ _ ?_ (fun hHeld => ?_)
    · (try dsimp only); (first | with_reducible assumption | ((repeat' apply And.intro) <;> first | with_reducible assumption | with_reducible exact cell_alloc1 _ (by with_reducible assumption) | exact Fit.drew (by with_reducible assumption) | exact Fit.alloc (by with_reducible assumption) _ | exact Below.drew (by with_reducible assumption) | exact Below.alloc (by with_reducible assumption) (Below.size (by with_reducible assumption)) _ | go_keep))
    clear hK K
    try simp only [Act.put, List.getElem_toArray, List.getElem_cons_succ, List.getElem_cons_zero, List.setIfInBounds_toArray, List.set_cons_zero, List.set_cons_succ]
    refine wpAnyH_ready (rs := [32]) (by kernel_rfl) (by simp) ?_
    refine AllReadyH.cons rfl (fun K hK => ?_) ?_
    rotate_left
    · exact AllReadyH.nil
    go_simp
    (have hh := ‹_ ∧ Fit _ ∧ Below _ _ _›; obtain ⟨⟨c0, c1, c2, c3, c4, c5, c6, c7, c8, c9, c10, c11, c12, c13, c14, c15⟩, ft, hb⟩ := hh; refine (G2.out _).mono ?_; rintro e wN ⟨rfl, hBN⟩; have c0 := cell_keep hBN c0; have c1 := cell_keep hBN c1; have c2 := cell_keep hBN c2; have c3 := cell_keep hBN c3; have c4 := cell_keep hBN c4; have c5 := cell_keep hBN c5; have c6 := cell_keep hBN c6; have c7 := cell_keep hBN c7; have c8 := cell_keep hBN c8; have c9 := cell_keep hBN c9; have c10 := cell_keep hBN c10; have c11 := cell_keep hBN c11; have c12 := cell_keep hBN c12; have c13 := cell_keep hBN c13; have c14 := cell_keep hBN c14; have c15 := cell_keep hBN c15; have ft := ft.below hBN; have hb := hb.trans (hBN.mono hb.size); clear hBN; try simp only [sv])
    refine hK.out _ _ ?_ (fun hHeld => ?_)
    · (try dsimp only); (first | with_reducible assumption | ((repeat' apply And.intro) <;> first | with_reducible assumption | with_reducible exact cell_alloc1 _ (by with_reducible assumption) | exact Fit.drew (by with_reducible assumption) | exact Fit.alloc (by with_reducible assumption) _ | exact Below.drew (by with_reducible assumption) | exact Below.alloc (by with_reducible assumption) (Below.size (by with_reducible assumption)) _ | go_keep))
    clear hK K
    try simp only [Act.put, List.getElem_toArray, List.getElem_cons_succ, List.getElem_cons_zero, List.setIfInBounds_toArray, List.set_cons_zero, List.set_cons_succ]
    refine wpAnyH_ready (rs := [34]) (by kernel_rfl) (by simp) ?_
    refine AllReadyH.cons rfl (fun K hK => ?_) ?_
    rotate_left
    · exact AllReadyH.nil
    go_simp
    (have hh := ‹_ ∧ Fit _ ∧ Below _ _ _›; obtain ⟨⟨c0, c1, c2, c3, c4, c5, c6, c7, c8, c9, c10, c11, c12, c13, c14, c15⟩, ft, hb⟩ := hh; refine (G3.out _).mono ?_; rintro e wN ⟨rfl, hBN⟩; have c0 := cell_keep hBN c0; have c1 := cell_keep hBN c1; have c2 := cell_keep hBN c2; have c3 := cell_keep hBN c3; have c4 := cell_keep hBN c4; have c5 := cell_keep hBN c5; have c6 := cell_keep hBN c6; have c7 := cell_keep hBN c7; have c8 := cell_keep hBN c8; have c9 := cell_keep hBN c9; have c10 := cell_keep hBN c10; have c11 := cell_keep hBN c11; have c12 := cell_keep hBN c12; have c13 := cell_keep hBN c13; have c14 := cell_keep hBN c14; have c15 := cell_keep hBN c15; have ft := ft.below hBN; have hb := hb.trans (hBN.mono hb.size); clear hBN; try simp only [sv])
    refine hK.out _ _ ?_ (fun hHeld => ?_)
    · (try dsimp only); (first | with_reducible assumption | ((repeat' apply And.intro) <;> first | with_reducible assumption | with_reducible exact cell_alloc1 _ (by with_reducible assumption) | exact Fit.drew (by with_reducible assumption) | exact Fit.alloc (by with_reducible assumption) _ | exact Below.drew (by with_reducible assumption) | exact Below.alloc (by with_reducible assumption) (Below.size (by with_reducible assumption)) _ | go_keep))
    clear hK K
    try simp only [Act.put, List.getElem_toArray, List.getElem_cons_succ, List.getElem_cons_zero, List.setIfInBounds_toArray, List.set_cons_zero, List.set_cons_succ]
    refine wpAnyH_take (i := 35) (v := ?_) rfl (by kernel_rfl) (by kernel_rfl) (by kernel_rfl) (fun _ _ _ h => h) (Or.inl ⟨by kernel_rfl, ?_⟩) (by assumption) ?_
    rotate_left
    · (intro w hSw; (try dsimp only at hSw); go_simp); (try with_reducible rfl)
    try simp only [Act.put, List.getElem_toArray, List.getElem_cons_succ, List.getElem_cons_zero, List.setIfInBounds_toArray, List.set_cons_zero, List.set_cons_succ]
    refine wpAnyH_ready (rs := [37]) (by kernel_rfl) (by simp) ?_
    refine AllReadyH.cons rfl (fun K hK => ?_) ?_
    rotate_left
    · exact AllReadyH.nil
    go_simp
    (have hh := ‹_ ∧ Fit _ ∧ Below _ _ _›; obtain ⟨⟨c0, c1, c2, c3, c4, c5, c6, c7, c8, c9, c10, c11, c12, c13, c14, c15⟩, ft, hb⟩ := hh; refine (G4.out _).mono ?_; rintro e wN ⟨rfl, hBN⟩; have c0 := cell_keep hBN c0; have c1 := cell_keep hBN c1; have c2 := cell_keep hBN c2; have c3 := cell_keep hBN c3; have c4 := cell_keep hBN c4; have c5 := cell_keep hBN c5; have c6 := cell_keep hBN c6; have c7 := cell_keep hBN c7; have c8 := cell_keep hBN c8; have c9 := cell_keep hBN c9; have c10 := cell_keep hBN c10; have c11 := cell_keep hBN c11; have c12 := cell_keep hBN c12; have c13 := cell_keep hBN c13; have c14 := cell_keep hBN c14; have c15 := cell_keep hBN c15; have ft := ft.below hBN; have hb := hb.trans (hBN.mono hb.size); clear hBN; try simp only [sv])
    refine hK.out _ _ ?_ (fun hHeld => ?_)
    · (try dsimp only); (first | with_reducible assumption | ((repeat' apply And.intro) <;> first | with_reducible assumption | with_reducible exact cell_alloc1 _ (by with_reducible assumption) | exact Fit.drew (by with_reducible assumption) | exact Fit.alloc (by with_reducible assumption) _ | exact Below.drew (by with_reducible assumption) | exact Below.alloc (by with_reducible assumption) (Below.size (by with_reducible assumption)) _ | go_keep))
    clear hK K
    try simp only [Act.put, List.getElem_toArray, List.getElem_cons_succ, List.getElem_cons_zero, List.setIfInBounds_toArray, List.set_cons_zero, List.set_cons_succ]
    refine wpAnyH_take (i := 38) (v := ?_) rfl (by kernel_rfl) (by kernel_rfl) (by kernel_rfl) (fun _ _ _ h => h) (Or.inl ⟨by kernel_rfl, ?_⟩) (by assumption) ?_
    rotate_left
    · (intro w hSw; (try dsimp only at hSw); go_simp); (try with_reducible rfl)
    try simp only [Act.put, List.getElem_toArray, List.getElem_cons_succ, List.getElem_cons_zero, List.setIfInBounds_toArray, List.set_cons_zero, List.set_cons_succ]
    refine wpAnyH_take (i := 39) (v := ?_) rfl (by kernel_rfl) (by kernel_rfl) (by kernel_rfl) (fun _ _ _ h => h) (Or.inl ⟨by kernel_rfl, ?_⟩) (by assumption) ?_
    rotate_left
    · (intro w hSw; (try dsimp only at hSw); go_simp); (try with_reducible rfl)
    try simp only [Act.put, List.getElem_toArray, List.getElem_cons_succ, List.getElem_cons_zero, List.setIfInBounds_toArray, List.set_cons_zero, List.set_cons_succ]
    refine wpAnyH_take (i := 40) (v := ?_) rfl (by kernel_rfl) (by kernel_rfl) (by kernel_rfl) (fun _ _ _ h => h) (Or.inl ⟨by kernel_rfl, ?_⟩) (by assumption) ?_
    rotate_left
    · (intro w hSw; (try dsimp only at hSw); go_simp); (try with_reducible rfl)
    try simp only [Act.put, List.getElem_toArray, List.getElem_cons_succ, List.getElem_cons_zero, List.setIfInBounds_toArray, List.set_cons_zero, List.set_cons_succ]
    refine wpAnyH_take (i := 41) (v := ?_) rfl (by kernel_rfl) (by kernel_rfl) (by kernel_rfl) (fun _ _ _ h => h) (Or.inl ⟨by kernel_rfl, ?_⟩) (by assumption) ?_
    rotate_left
    · (intro w hSw; (try dsimp only at hSw); go_simp); (try with_reducible rfl)
    try simp only [Act.put, List.getElem_toArray, List.getElem_cons_succ, List.getElem_cons_zero, List.setIfInBounds_toArray, List.set_cons_zero, List.set_cons_succ]
    refine wpAnyH_ready (rs := [42]) (by kernel_rfl) (by simp) ?_
    refine AllReadyH.cons rfl (fun K hK => ?_) ?_
    rotate_left
    · exact AllReadyH.nil
    go_simp
    (have hh := ‹_ ∧ Fit _ ∧ Below _ _ _›; obtain ⟨⟨c0, c1, c2, c3, c4, c5, c6, c7, c8, c9, c10, c11, c12, c13, c14, c15⟩, ft, hb⟩ := hh; refine (HX.out _ ft).mono ?_; rintro e wN ⟨rfl, hBN⟩; have c0 := cell_keep hBN c0; have c1 := cell_keep hBN c1; have c2 := cell_keep hBN c2; have c3 := cell_keep hBN c3; have c4 := cell_keep hBN c4; have c5 := cell_keep hBN c5; have c6 := cell_keep hBN c6; have c7 := cell_keep hBN c7; have c8 := cell_keep hBN c8; have c9 := cell_keep hBN c9; have c10 := cell_keep hBN c10; have c11 := cell_keep hBN c11; have c12 := cell_keep hBN c12; have c13 := cell_keep hBN c13; have c14 := cell_keep hBN c14; have c15 := cell_keep hBN c15; have ft := ft.below hBN; have hb := hb.trans (hBN.mono hb.size); clear hBN; try simp only [sv])
    refine hK.out _ _ ?_ (fun hHeld => ?_)
    · (try dsimp only); (first | with_reducible assumption | ((repeat' apply And.intro) <;> first | with_reducible assumption | with_reducible exact cell_alloc1 _ (by with_reducible assumption) | exact Fit.drew (by with_reducible assumption) | exact Fit.alloc (by with_reducible assumption) _ | exact Below.drew (by with_reducible assumption) | exact Below.alloc (by with_reducible assumption) (Below.size (by with_reducible assumption)) _ | go_keep))
    clear hK K
    try simp only [Act.put, List.getElem_toArray, List.getElem_cons_succ, List.getElem_cons_zero, List.setIfInBounds_toArray, List.set_cons_zero, List.set_cons_succ]
    refine wpAnyH_take (i := 43) (v := ?_) rfl (by kernel_rfl) (by kernel_rfl) (by kernel_rfl) (fun _ _ _ h => h) (Or.inl ⟨by kernel_rfl, ?_⟩) (by assumption) ?_
    rotate_left
    · (intro w hSw; (try dsimp only at hSw); go_simp); (try with_reducible rfl)
    try simp only [Act.put, List.getElem_toArray, List.getElem_cons_succ, List.getElem_cons_zero, List.setIfInBounds_toArray, List.set_cons_zero, List.set_cons_succ]
    refine wpAnyH_take (i := 44) (v := ?_) rfl (by kernel_rfl) (by kernel_rfl) (by kernel_rfl) (fun _ _ _ h => h) (Or.inl ⟨by kernel_rfl, ?_⟩) (by assumption) ?_
    rotate_left
    · (intro w hSw; (try dsimp only at hSw); go_simp); (try with_reducible rfl)
    try simp only [Act.put, List.getElem_toArray, List.getElem_cons_succ, List.getElem_cons_zero, List.setIfInBounds_toArray, List.set_cons_zero, List.set_cons_succ]
    refine wpAnyH_done (by kernel_rfl) ?_ _
    refine NoPanic.normal ?_
    go_wp2
    go_ret
    exact ⟨rfl, by with_reducible assumption⟩
  have HR := Lib.hid hrest
  clear hQ hrest
  refine wp_region_noPanic ?_
  refine wp_region_held_drew (S := fun w' => (w'.cell? ⟨w.heap.size, 0, none⟩ = some (.int .u64 (wd s 0)) ∧ w'.cell? ⟨w.heap.size, 1, none⟩ = some (.int .u64 (wd s 1)) ∧ w'.cell? ⟨w.heap.size, 2, none⟩ = some (.int .u64 (wd s 2)) ∧ w'.cell? ⟨w.heap.size, 3, none⟩ = some (.int .u64 (wd s 3)) ∧ w'.cell? ⟨(w.heap.size + 1), 0, none⟩ = some (.int .u64 (wd t 0)) ∧ w'.cell? ⟨(w.heap.size + 1), 1, none⟩ = some (.int .u64 (wd t 1)) ∧ w'.cell? ⟨(w.heap.size + 1), 2, none⟩ = some (.int .u64 (wd t 2)) ∧ w'.cell? ⟨(w.heap.size + 1), 3, none⟩ = some (.int .u64 (wd t 3)) ∧ w'.cell? ⟨w1.heap.size, 0, none⟩ = some (.int .u64 (wd u 0)) ∧ w'.cell? ⟨w1.heap.size, 1, none⟩ = some (.int .u64 (wd u 1)) ∧ w'.cell? ⟨w1.heap.size, 2, none⟩ = some (.int .u64 (wd u 2)) ∧ w'.cell? ⟨w1.heap.size, 3, none⟩ = some (.int .u64 (wd u 3))) ∧ Fit w' ∧ Below w.heap.size w w') (by kernel_rfl) ?_ (fun hHeld => ?_)
  · (try dsimp only); (first | with_reducible assumption | ((repeat' apply And.intro) <;> first | with_reducible assumption | with_reducible exact cell_alloc1 _ (by with_reducible assumption) | exact Fit.drew (by with_reducible assumption) | exact Fit.alloc (by with_reducible assumption) _ | exact Below.drew (by with_reducible assumption) | exact Below.alloc (by with_reducible assumption) (Below.size (by with_reducible assumption)) _ | go_keep))
  refine wpAnyH_take (i := 0) (v := ?_) rfl (by kernel_rfl) (by kernel_rfl) (by kernel_rfl) (fun _ _ _ h => h) (Or.inl ⟨by kernel_rfl, ?_⟩) (by assumption) ?_
  rotate_left
  · (intro w hSw; (try dsimp only at hSw); go_simp); (try with_reducible rfl)
  try simp only [Act.put, List.getElem_toArray, List.getElem_cons_succ, List.getElem_cons_zero, List.setIfInBounds_toArray, List.set_cons_zero, List.set_cons_succ]
  refine wpAnyH_take (i := 2) (v := ?_) rfl (by kernel_rfl) (by kernel_rfl) (by kernel_rfl) (fun _ _ _ h => h) (Or.inl ⟨by kernel_rfl, ?_⟩) (by assumption) ?_
  rotate_left
  · (intro w hSw; (try dsimp only at hSw); go_simp); (try with_reducible rfl)
  try simp only [Act.put, List.getElem_toArray, List.getElem_cons_succ, List.getElem_cons_zero, List.setIfInBounds_toArray, List.set_cons_zero, List.set_cons_succ]
  refine wpAnyH_ready (rs := [1, 7]) (by kernel_rfl) (by simp) ?_
  refine AllReadyH.cons rfl (fun K hK => ?_) (AllReadyH.cons rfl (fun K hK => ?_) AllReadyH.nil)
  · obtain ⟨⟨c0, c1, c2, c3, c4, c5, c6, c7, c8, c9, c10, c11⟩, ft, hb⟩ := hHeld
    go_simp
    refine (N1.out _).mono ?_
    rintro e wN ⟨rfl, hBN⟩
    replace c0 := cell_keep hBN c0; replace c1 := cell_keep hBN c1; replace c2 := cell_keep hBN c2; replace c3 := cell_keep hBN c3; replace c4 := cell_keep hBN c4; replace c5 := cell_keep hBN c5; replace c6 := cell_keep hBN c6; replace c7 := cell_keep hBN c7; replace c8 := cell_keep hBN c8; replace c9 := cell_keep hBN c9; replace c10 := cell_keep hBN c10; replace c11 := cell_keep hBN c11
    replace ft := ft.below hBN; replace hb := hb.trans (hBN.mono hb.size)
    clear hBN
    try simp only [sv]
    refine hK.out _ _ ?_ (fun hHeld => ?_)
    · exact ⟨⟨c0, c1, c2, c3, c4, c5, c6, c7, c8, c9, c10, c11⟩, ft, hb⟩
    clear hK K c0 c1 c2 c3 c4 c5 c6 c7 c8 c9 c10 c11 ft hb
    try simp only [Act.put, List.getElem_toArray, List.getElem_cons_succ, List.getElem_cons_zero, List.setIfInBounds_toArray, List.set_cons_zero, List.set_cons_succ]
    refine wpAnyH_ready (rs := [3, 7]) (by kernel_rfl) (by simp) ?_
    refine AllReadyH.cons rfl (fun K hK => ?_) (AllReadyH.cons rfl (fun K hK => ?_) AllReadyH.nil)
    · obtain ⟨⟨c0, c1, c2, c3, c4, c5, c6, c7, c8, c9, c10, c11⟩, ft, hb⟩ := hHeld
      go_simp
      refine (N2.out _).mono ?_
      rintro e wN ⟨rfl, hBN⟩
      replace c0 := cell_keep hBN c0; replace c1 := cell_keep hBN c1; replace c2 := cell_keep hBN c2; replace c3 := cell_keep hBN c3; replace c4 := cell_keep hBN c4; replace c5 := cell_keep hBN c5; replace c6 := cell_keep hBN c6; replace c7 := cell_keep hBN c7; replace c8 := cell_keep hBN c8; replace c9 := cell_keep hBN c9; replace c10 := cell_keep hBN c10; replace c11 := cell_keep hBN c11
      replace ft := ft.below hBN; replace hb := hb.trans (hBN.mono hb.size)
      clear hBN
      try simp only [sv]
      refine hK.out _ _ ?_ (fun hHeld => ?_)
      · exact ⟨⟨c0, c1, c2, c3, c4, c5, c6, c7, c8, c9, c10, c11⟩, ft, hb⟩
      clear hK K c0 c1 c2 c3 c4 c5 c6 c7 c8 c9 c10 c11 ft hb
      try simp only [Act.put, List.getElem_toArray, List.getElem_cons_succ, List.getElem_cons_zero, List.setIfInBounds_toArray, List.set_cons_zero, List.set_cons_succ]
      refine wpAnyH_ready (rs := [4, 7]) (by kernel_rfl) (by simp) ?_
      refine AllReadyH.cons rfl (fun K hK => ?_) (AllReadyH.cons rfl (fun K hK => ?_) AllReadyH.nil)
      · obtain ⟨⟨c0, c1, c2, c3, c4, c5, c6, c7, c8, c9, c10, c11⟩, ft, hb⟩ := hHeld
        go_simp
        refine hK.out _ _ ?_ (fun hHeld => ?_)
        · exact ⟨⟨cell_alloc1 _ c0, cell_alloc1 _ c1, cell_alloc1 _ c2, cell_alloc1 _ c3, cell_alloc1 _ c4, cell_alloc1 _ c5, cell_alloc1 _ c6, cell_alloc1 _ c7, cell_alloc1 _ c8, cell_alloc1 _ c9, cell_alloc1 _ c10, cell_alloc1 _ c11⟩, ft.alloc _, hb.alloc hb.size _⟩
        clear hK K c0 c1 c2 c3 c4 c5 c6 c7 c8 c9 c10 c11 ft hb
        try simp only [Act.put, List.getElem_toArray, List.getElem_cons_succ, List.getElem_cons_zero, List.setIfInBounds_toArray, List.set_cons_zero, List.set_cons_succ]
        refine wpAnyH_ready (rs := [5, 7]) (by kernel_rfl) (by simp) ?_
        refine AllReadyH.cons rfl (fun K hK => ?_) (AllReadyH.cons rfl (fun K hK => ?_) AllReadyH.nil)
        · obtain ⟨⟨c0, c1, c2, c3, c4, c5, c6, c7, c8, c9, c10, c11⟩, ft, hb⟩ := hHeld
          go_simp
          refine (HO4.out _ _ _ (by first | exact heap_new _ _ | exact heap_new2 _ _ _)).mono ?_
          rintro e wN ⟨rfl, hBN⟩
          replace c0 := cell_keep hBN c0; replace c1 := cell_keep hBN c1; replace c2 := cell_keep hBN c2; replace c3 := cell_keep hBN c3; replace c4 := cell_keep hBN c4; replace c5 := cell_keep hBN c5; replace c6 := cell_keep hBN c6; replace c7 := cell_keep hBN c7; replace c8 := cell_keep hBN c8; replace c9 := cell_keep hBN c9; replace c10 := cell_keep hBN c10; replace c11 := cell_keep hBN c11
          replace ft := ft.below hBN; replace hb := hb.trans (hBN.mono hb.size)
          clear hBN
          try simp only [sv]
          refine hK.out _ _ ?_ (fun hHeld => ?_)
          · exact ⟨⟨c0, c1, c2, c3, c4, c5, c6, c7, c8, c9, c10, c11⟩, ft, hb⟩
          clear hK K c0 c1 c2 c3 c4 c5 c6 c7 c8 c9 c10 c11 ft hb
          try simp only [Act.put, List.getElem_toArray, List.getElem_cons_succ, List.getElem_cons_zero, List.setIfInBounds_toArray, List.set_cons_zero, List.set_cons_succ]
          refine wpAnyH_ready (rs := [6, 7]) (by kernel_rfl) (by simp) ?_
          refine AllReadyH.cons rfl (fun K hK => ?_) (AllReadyH.cons rfl (fun K hK => ?_) AllReadyH.nil)
          · obtain ⟨⟨c0, c1, c2, c3, c4, c5, c6, c7, c8, c9, c10, c11⟩, ft, hb⟩ := hHeld
            go_simp
            refine (N3.out _).mono ?_
            rintro e wN ⟨rfl, hBN⟩
            replace c0 := cell_keep hBN c0; replace c1 := cell_keep hBN c1; replace c2 := cell_keep hBN c2; replace c3 := cell_keep hBN c3; replace c4 := cell_keep hBN c4; replace c5 := cell_keep hBN c5; replace c6 := cell_keep hBN c6; replace c7 := cell_keep hBN c7; replace c8 := cell_keep hBN c8; replace c9 := cell_keep hBN c9; replace c10 := cell_keep hBN c10; replace c11 := cell_keep hBN c11
            replace ft := ft.below hBN; replace hb := hb.trans (hBN.mono hb.size)
            clear hBN
            try simp only [sv]
            refine hK.out _ _ ?_ (fun hHeld => ?_)
            · exact ⟨⟨c0, c1, c2, c3, c4, c5, c6, c7, c8, c9, c10, c11⟩, ft, hb⟩
            clear hK K c0 c1 c2 c3 c4 c5 c6 c7 c8 c9 c10 c11 ft hb
            try simp only [Act.put, List.getElem_toArray, List.getElem_cons_succ, List.getElem_cons_zero, List.setIfInBounds_toArray, List.set_cons_zero, List.set_cons_succ]
            refine wpAnyH_ready (rs := [7]) (by kernel_rfl) (by simp) ?_
            refine AllReadyH.cons rfl (fun K hK => ?_) AllReadyH.nil
            obtain ⟨⟨c0, c1, c2, c3, c4, c5, c6, c7, c8, c9, c10, c11⟩, ft, hb⟩ := hHeld
            have Z : Four (World.alloc (wN) (.cells #[.int .u64 0, .int .u64 0, .int .u64 0, .int .u64 0] 24)) (wN.heap.size) 24 (.int .u64 0) (.int .u64 0) (.int .u64 0) (.int .u64 0) := by have := Four.new (wN) 24 (.int .u64 0) (.int .u64 0) (.int .u64 0) (.int .u64 0); exact this
            have l0 := cell_lt c0
            have l1 := cell_lt c4
            have l2 := cell_lt c8
            have n0 : wN.heap.size ≠ w.heap.size := by omega
            have n1 : wN.heap.size ≠ w.heap.size + 1 := by omega
            have n2 : wN.heap.size ≠ w1.heap.size := by omega
            have np : 0 < wN.heap.size := by omega
            go_simp
            refine hK.out _ _ ?_ (fun hHeld => ?_)
            · exact ⟨⟨cell_alloc1 _ c0, cell_alloc1 _ c1, cell_alloc1 _ c2, cell_alloc1 _ c3, cell_alloc1 _ c4, cell_alloc1 _ c5, cell_alloc1 _ c6, cell_alloc1 _ c7, cell_alloc1 _ c8, cell_alloc1 _ c9, cell_alloc1 _ c10, cell_alloc1 _ c11⟩, ft.alloc _, hb.alloc hb.size _⟩
            clear hK K hHeld
            try simp only [Act.put, List.getElem_toArray, List.getElem_cons_succ, List.getElem_cons_zero, List.setIfInBounds_toArray, List.set_cons_zero, List.set_cons_succ]
            refine wpAnyH_ready (rs := [8]) (by kernel_rfl) (by simp) ?_
            refine AllReadyH.cons rfl (fun K hK => ?_) AllReadyH.nil
            have hZ0 := Z.c0; have hZ1 := Z.c1; have hZ2 := Z.c2; have hZ3 := Z.c3
            have hF0 := Z.fz 0; have hF1 := Z.fz 1; have hF2 := Z.fz 2; have hF3 := Z.fz 3
            go_simp
            refine hK.out _ _ ?_ (fun hHeld => ?_)
            · exact ⟨⟨cell_alloc1 _ c0, cell_alloc1 _ c1, cell_alloc1 _ c2, cell_alloc1 _ c3, cell_alloc1 _ c4, cell_alloc1 _ c5, cell_alloc1 _ c6, cell_alloc1 _ c7, cell_alloc1 _ c8, cell_alloc1 _ c9, cell_alloc1 _ c10, cell_alloc1 _ c11⟩, ft.alloc _, hb.alloc hb.size _⟩
            clear hK K
            try simp only [Act.put, List.getElem_toArray, List.getElem_cons_succ, List.getElem_cons_zero, List.setIfInBounds_toArray, List.set_cons_zero, List.set_cons_succ]
            refine wpAnyH_done (by kernel_rfl) ?_ _
            refine NoPanic.normal ?_
            exact HR.out _ _ _ hHeld (Four.new wN 24 (.int .u64 (wd q 0)) (.int .u64 (wd q 1)) (.int .u64 (wd q 2)) (.int .u64 (wd q 3)))
          · obtain ⟨⟨c0, c1, c2, c3, c4, c5, c6, c7, c8, c9, c10, c11⟩, ft, hb⟩ := hHeld
            have Z : Four (World.alloc (wN) (.cells #[.int .u64 0, .int .u64 0, .int .u64 0, .int .u64 0] 24)) (wN.heap.size) 24 (.int .u64 0) (.int .u64 0) (.int .u64 0) (.int .u64 0) := by have := Four.new (wN) 24 (.int .u64 0) (.int .u64 0) (.int .u64 0) (.int .u64 0); exact this
            have l0 := cell_lt c0
            have l1 := cell_lt c4
            have l2 := cell_lt c8
            have n0 : wN.heap.size ≠ w.heap.size := by omega
            have n1 : wN.heap.size ≠ w.heap.size + 1 := by omega
            have n2 : wN.heap.size ≠ w1.heap.size := by omega
            have np : 0 < wN.heap.size := by omega
            go_simp
            refine hK.out _ _ ?_ (fun hHeld => ?_)
            · exact ⟨⟨cell_alloc1 _ c0, cell_alloc1 _ c1, cell_alloc1 _ c2, cell_alloc1 _ c3, cell_alloc1 _ c4, cell_alloc1 _ c5, cell_alloc1 _ c6, cell_alloc1 _ c7, cell_alloc1 _ c8, cell_alloc1 _ c9, cell_alloc1 _ c10, cell_alloc1 _ c11⟩, ft.alloc _, hb.alloc hb.size _⟩
            clear hK K c0 c1 c2 c3 c4 c5 c6 c7 c8 c9 c10 c11 ft hb
            try simp only [Act.put, List.getElem_toArray, List.getElem_cons_succ, List.getElem_cons_zero, List.setIfInBounds_toArray, List.set_cons_zero, List.set_cons_succ]
            refine wpAnyH_ready (rs := [6]) (by kernel_rfl) (by simp) ?_
            refine AllReadyH.cons rfl (fun K hK => ?_) AllReadyH.nil
            obtain ⟨⟨c0, c1, c2, c3, c4, c5, c6, c7, c8, c9, c10, c11⟩, ft, hb⟩ := hHeld
            go_simp
            refine (N3.out _).mono ?_
            rintro e wN ⟨rfl, hBN⟩
            replace c0 := cell_keep hBN c0; replace c1 := cell_keep hBN c1; replace c2 := cell_keep hBN c2; replace c3 := cell_keep hBN c3; replace c4 := cell_keep hBN c4; replace c5 := cell_keep hBN c5; replace c6 := cell_keep hBN c6; replace c7 := cell_keep hBN c7; replace c8 := cell_keep hBN c8; replace c9 := cell_keep hBN c9; replace c10 := cell_keep hBN c10; replace c11 := cell_keep hBN c11
            replace ft := ft.below hBN; replace hb := hb.trans (hBN.mono hb.size)
            replace Z := Z.below hBN Z.lt
            clear hBN
            try simp only [sv]
            refine hK.out _ _ ?_ (fun hHeld => ?_)
            · exact ⟨⟨c0, c1, c2, c3, c4, c5, c6, c7, c8, c9, c10, c11⟩, ft, hb⟩
            clear hK K c0 c1 c2 c3 c4 c5 c6 c7 c8 c9 c10 c11 ft hb
            try simp only [Act.put, List.getElem_toArray, List.getElem_cons_succ, List.getElem_cons_zero, List.setIfInBounds_toArray, List.set_cons_zero, List.set_cons_succ]
            refine wpAnyH_ready (rs := [8]) (by kernel_rfl) (by simp) ?_
            refine AllReadyH.cons rfl (fun K hK => ?_) AllReadyH.nil
            obtain ⟨⟨c0, c1, c2, c3, c4, c5, c6, c7, c8, c9, c10, c11⟩, ft, hb⟩ := hHeld
            have hZ0 := Z.c0; have hZ1 := Z.c1; have hZ2 := Z.c2; have hZ3 := Z.c3
            have hF0 := Z.fz 0; have hF1 := Z.fz 1; have hF2 := Z.fz 2; have hF3 := Z.fz 3
            go_simp
            refine hK.out _ _ ?_ (fun hHeld => ?_)
            · exact ⟨⟨cell_set4 c0 n0, cell_set4 c1 n0, cell_set4 c2 n0, cell_set4 c3 n0, cell_set4 c4 n1, cell_set4 c5 n1, cell_set4 c6 n1, cell_set4 c7 n1, cell_set4 c8 n2, cell_set4 c9 n2, cell_set4 c10 n2, cell_set4 c11 n2⟩, ft.set4 np _ _ _ _, Below.set4 hb (Nat.le_of_lt l0) _ _ _ _⟩
            clear hK K
            try simp only [Act.put, List.getElem_toArray, List.getElem_cons_succ, List.getElem_cons_zero, List.setIfInBounds_toArray, List.set_cons_zero, List.set_cons_succ]
            refine wpAnyH_done (by kernel_rfl) ?_ _
            refine NoPanic.normal ?_
            exact HR.out _ _ _ hHeld (Z.set (.int .u64 (wd q 0)) (.int .u64 (wd q 1)) (.int .u64 (wd q 2)) (.int .u64 (wd q 3)))
        · obtain ⟨⟨c0, c1, c2, c3, c4, c5, c6, c7, c8, c9, c10, c11⟩, ft, hb⟩ := hHeld
          have Z : Four (World.alloc ((wN.alloc (.cells #[.int .u64 (wd m 0), .int .u64 (wd m 1), .int .u64 (wd m 2), .int .u64 (wd m 3), .int .u64 (wd n 0), .int .u64 (wd n 1), .int .u64 (wd n 2), .int .u64 (wd n 3)] 24))) (.cells #[.int .u64 0, .int .u64 0, .int .u64 0, .int .u64 0] 24)) (wN.heap.size + 1) 24 (.int .u64 0) (.int .u64 0) (.int .u64 0) (.int .u64 0) := by have := Four.new ((wN.alloc (.cells #[.int .u64 (wd m 0), .int .u64 (wd m 1), .int .u64 (wd m 2), .int .u64 (wd m 3), .int .u64 (wd n 0), .int .u64 (wd n 1), .int .u64 (wd n 2), .int .u64 (wd n 3)] 24))) 24 (.int .u64 0) (.int .u64 0) (.int .u64 0) (.int .u64 0); rwa [World.size_alloc] at this
          have l0 := cell_lt c0
          have l1 := cell_lt c4
          have l2 := cell_lt c8
          rw [World.size_alloc] at l0 l1 l2
          have n0 : wN.heap.size + 1 ≠ w.heap.size := by omega
          have n1 : wN.heap.size + 1 ≠ w.heap.size + 1 := by omega
          have n2 : wN.heap.size + 1 ≠ w1.heap.size := by omega
          have np : 0 < wN.heap.size + 1 := by omega
          go_simp
          refine hK.out _ _ ?_ (fun hHeld => ?_)
          · exact ⟨⟨cell_alloc1 _ c0, cell_alloc1 _ c1, cell_alloc1 _ c2, cell_alloc1 _ c3, cell_alloc1 _ c4, cell_alloc1 _ c5, cell_alloc1 _ c6, cell_alloc1 _ c7, cell_alloc1 _ c8, cell_alloc1 _ c9, cell_alloc1 _ c10, cell_alloc1 _ c11⟩, ft.alloc _, hb.alloc hb.size _⟩
          clear hK K c0 c1 c2 c3 c4 c5 c6 c7 c8 c9 c10 c11 ft hb
          try simp only [Act.put, List.getElem_toArray, List.getElem_cons_succ, List.getElem_cons_zero, List.setIfInBounds_toArray, List.set_cons_zero, List.set_cons_succ]
          refine wpAnyH_ready (rs := [5]) (by kernel_rfl) (by simp) ?_
          refine AllReadyH.cons rfl (fun K hK => ?_) AllReadyH.nil
          obtain ⟨⟨c0, c1, c2, c3, c4, c5, c6, c7, c8, c9, c10, c11⟩, ft, hb⟩ := hHeld
          go_simp
          refine (HO4.out _ _ _ (heap_new2 _ _ _)).mono ?_
          rintro e wN ⟨rfl, hBN⟩
          replace c0 := cell_keep hBN c0; replace c1 := cell_keep hBN c1; replace c2 := cell_keep hBN c2; replace c3 := cell_keep hBN c3; replace c4 := cell_keep hBN c4; replace c5 := cell_keep hBN c5; replace c6 := cell_keep hBN c6; replace c7 := cell_keep hBN c7; replace c8 := cell_keep hBN c8; replace c9 := cell_keep hBN c9; replace c10 := cell_keep hBN c10; replace c11 := cell_keep hBN c11
          replace ft := ft.below hBN; replace hb := hb.trans (hBN.mono hb.size)
          replace Z := Z.below hBN Z.lt
          clear hBN
          try simp only [sv]
          refine hK.out _ _ ?_ (fun hHeld => ?_)
          · exact ⟨⟨c0, c1, c2, c3, c4, c5, c6, c7, c8, c9, c10, c11⟩, ft, hb⟩
          clear hK K c0 c1 c2 c3 c4 c5 c6 c7 c8 c9 c10 c11 ft hb
          try simp only [Act.put, List.getElem_toArray, List.getElem_cons_succ, List.getElem_cons_zero, List.setIfInBounds_toArray, List.set_cons_zero, List.set_cons_succ]
          refine wpAnyH_ready (rs := [6]) (by kernel_rfl) (by simp) ?_
          refine AllReadyH.cons rfl (fun K hK => ?_) AllReadyH.nil
          obtain ⟨⟨c0, c1, c2, c3, c4, c5, c6, c7, c8, c9, c10, c11⟩, ft, hb⟩ := hHeld
          go_simp
          refine (N3.out _).mono ?_
          rintro e wN ⟨rfl, hBN⟩
          replace c0 := cell_keep hBN c0; replace c1 := cell_keep hBN c1; replace c2 := cell_keep hBN c2; replace c3 := cell_keep hBN c3; replace c4 := cell_keep hBN c4; replace c5 := cell_keep hBN c5; replace c6 := cell_keep hBN c6; replace c7 := cell_keep hBN c7; replace c8 := cell_keep hBN c8; replace c9 := cell_keep hBN c9; replace c10 := cell_keep hBN c10; replace c11 := cell_keep hBN c11
          replace ft := ft.below hBN; replace hb := hb.trans (hBN.mono hb.size)
          replace Z := Z.below hBN Z.lt
          clear hBN
          try simp only [sv]
          refine hK.out _ _ ?_ (fun hHeld => ?_)
          · exact ⟨⟨c0, c1, c2, c3, c4, c5, c6, c7, c8, c9, c10, c11⟩, ft, hb⟩
          clear hK K c0 c1 c2 c3 c4 c5 c6 c7 c8 c9 c10 c11 ft hb
          try simp only [Act.put, List.getElem_toArray, List.getElem_cons_succ, List.getElem_cons_zero, List.setIfInBounds_toArray, List.set_cons_zero, List.set_cons_succ]
          refine wpAnyH_ready (rs := [8]) (by kernel_rfl) (by simp) ?_
          refine AllReadyH.cons rfl (fun K hK => ?_) AllReadyH.nil
          obtain ⟨⟨c0, c1, c2, c3, c4, c5, c6, c7, c8, c9, c10, c11⟩, ft, hb⟩ := hHeld
          have hZ0 := Z.c0; have hZ1 := Z.c1; have hZ2 := Z.c2; have hZ3 := Z.c3
          have hF0 := Z.fz 0; have hF1 := Z.fz 1; have hF2 := Z.fz 2; have hF3 := Z.fz 3
          go_simp
          refine hK.out _ _ ?_ (fun hHeld => ?_)
          · exact ⟨⟨cell_set4 c0 n0, cell_set4 c1 n0, cell_set4 c2 n0, cell_set4 c3 n0, cell_set4 c4 n1, cell_set4 c5 n1, cell_set4 c6 n1, cell_set4 c7 n1, cell_set4 c8 n2, cell_set4 c9 n2, cell_set4 c10 n2, cell_set4 c11 n2⟩, ft.set4 np _ _ _ _, Below.set4 hb (Nat.le_of_lt l0) _ _ _ _⟩
          clear hK K
          try simp only [Act.put, List.getElem_toArray, List.getElem_cons_succ, List.getElem_cons_zero, List.setIfInBounds_toArray, List.set_cons_zero, List.set_cons_succ]
          refine wpAnyH_done (by kernel_rfl) ?_ _
          refine NoPanic.normal ?_
          exact HR.out _ _ _ hHeld (Z.set (.int .u64 (wd q 0)) (.int .u64 (wd q 1)) (.int .u64 (wd q 2)) (.int .u64 (wd q 3)))
      · obtain ⟨⟨c0, c1, c2, c3, c4, c5, c6, c7, c8, c9, c10, c11⟩, ft, hb⟩ := hHeld
        have Z : Four (World.alloc (wN) (.cells #[.int .u64 0, .int .u64 0, .int .u64 0, .int .u64 0] 24)) (wN.heap.size) 24 (.int .u64 0) (.int .u64 0) (.int .u64 0) (.int .u64 0) := by have := Four.new (wN) 24 (.int .u64 0) (.int .u64 0) (.int .u64 0) (.int .u64 0); exact this
        have l0 := cell_lt c0
        have l1 := cell_lt c4
        have l2 := cell_lt c8
        have n0 : wN.heap.size ≠ w.heap.size := by omega
        have n1 : wN.heap.size ≠ w.heap.size + 1 := by omega
        have n2 : wN.heap.size ≠ w1.heap.size := by omega
        have np : 0 < wN.heap.size := by omega
        go_simp
        refine hK.out _ _ ?_ (fun hHeld => ?_)
        · exact ⟨⟨cell_alloc1 _ c0, cell_alloc1 _ c1, cell_alloc1 _ c2, cell_alloc1 _ c3, cell_alloc1 _ c4, cell_alloc1 _ c5, cell_alloc1 _ c6, cell_alloc1 _ c7, cell_alloc1 _ c8, cell_alloc1 _ c9, cell_alloc1 _ c10, cell_alloc1 _ c11⟩, ft.alloc _, hb.alloc hb.size _⟩
        clear hK K c0 c1 c2 c3 c4 c5 c6 c7 c8 c9 c10 c11 ft hb
        try simp only [Act.put, List.getElem_toArray, List.getElem_cons_succ, List.getElem_cons_zero, List.setIfInBounds_toArray, List.set_cons_zero, List.set_cons_succ]
        refine wpAnyH_ready (rs := [4]) (by kernel_rfl) (by simp) ?_
        refine AllReadyH.cons rfl (fun K hK => ?_) AllReadyH.nil
        obtain ⟨⟨c0, c1, c2, c3, c4, c5, c6, c7, c8, c9, c10, c11⟩, ft, hb⟩ := hHeld
        go_simp
        refine hK.out _ _ ?_ (fun hHeld => ?_)
        · exact ⟨⟨cell_alloc1 _ c0, cell_alloc1 _ c1, cell_alloc1 _ c2, cell_alloc1 _ c3, cell_alloc1 _ c4, cell_alloc1 _ c5, cell_alloc1 _ c6, cell_alloc1 _ c7, cell_alloc1 _ c8, cell_alloc1 _ c9, cell_alloc1 _ c10, cell_alloc1 _ c11⟩, ft.alloc _, hb.alloc hb.size _⟩
        clear hK K c0 c1 c2 c3 c4 c5 c6 c7 c8 c9 c10 c11 ft hb
        try simp only [Act.put, List.getElem_toArray, List.getElem_cons_succ, List.getElem_cons_zero, List.setIfInBounds_toArray, List.set_cons_zero, List.set_cons_succ]
        replace Z := Z.alloc (.cells #[.int .u64 (wd m 0), .int .u64 (wd m 1), .int .u64 (wd m 2), .int .u64 (wd m 3), .int .u64 (wd n 0), .int .u64 (wd n 1), .int .u64 (wd n 2), .int .u64 (wd n 3)] 24)
        refine wpAnyH_ready (rs := [5]) (by kernel_rfl) (by simp) ?_
        refine AllReadyH.cons rfl (fun K hK => ?_) AllReadyH.nil
        obtain ⟨⟨c0, c1, c2, c3, c4, c5, c6, c7, c8, c9, c10, c11⟩, ft, hb⟩ := hHeld
        go_simp
        refine (HO4.out _ _ _ (by have := heap_new (World.alloc wN (.cells #[.int .u64 0, .int .u64 0, .int .u64 0, .int .u64 0] 24)) (.cells #[.int .u64 (wd m 0), .int .u64 (wd m 1), .int .u64 (wd m 2), .int .u64 (wd m 3), .int .u64 (wd n 0), .int .u64 (wd n 1), .int .u64 (wd n 2), .int .u64 (wd n 3)] 24); rwa [World.size_alloc] at this)).mono ?_
        rintro e wN ⟨rfl, hBN⟩
        replace c0 := cell_keep hBN c0; replace c1 := cell_keep hBN c1; replace c2 := cell_keep hBN c2; replace c3 := cell_keep hBN c3; replace c4 := cell_keep hBN c4; replace c5 := cell_keep hBN c5; replace c6 := cell_keep hBN c6; replace c7 := cell_keep hBN c7; replace c8 := cell_keep hBN c8; replace c9 := cell_keep hBN c9; replace c10 := cell_keep hBN c10; replace c11 := cell_keep hBN c11
        replace ft := ft.below hBN; replace hb := hb.trans (hBN.mono hb.size)
        replace Z := Z.below hBN Z.lt
        clear hBN
        try simp only [sv]
        refine hK.out _ _ ?_ (fun hHeld => ?_)
        · exact ⟨⟨c0, c1, c2, c3, c4, c5, c6, c7, c8, c9, c10, c11⟩, ft, hb⟩
        clear hK K c0 c1 c2 c3 c4 c5 c6 c7 c8 c9 c10 c11 ft hb
        try simp only [Act.put, List.getElem_toArray, List.getElem_cons_succ, List.getElem_cons_zero, List.setIfInBounds_toArray, List.set_cons_zero, List.set_cons_succ]
        refine wpAnyH_ready (rs := [6]) (by kernel_rfl) (by simp) ?_
        refine AllReadyH.cons rfl (fun K hK => ?_) AllReadyH.nil
        obtain ⟨⟨c0, c1, c2, c3, c4, c5, c6, c7, c8, c9, c10, c11⟩, ft, hb⟩ := hHeld
        go_simp
        refine (N3.out _).mono ?_
        rintro e wN ⟨rfl, hBN⟩
        replace c0 := cell_keep hBN c0; replace c1 := cell_keep hBN c1; replace c2 := cell_keep hBN c2; replace c3 := cell_keep hBN c3; replace c4 := cell_keep hBN c4; replace c5 := cell_keep hBN c5; replace c6 := cell_keep hBN c6; replace c7 := cell_keep hBN c7; replace c8 := cell_keep hBN c8; replace c9 := cell_keep hBN c9; replace c10 := cell_keep hBN c10; replace c11 := cell_keep hBN c11
        replace ft := ft.below hBN; replace hb := hb.trans (hBN.mono hb.size)
        replace Z := Z.below hBN Z.lt
        clear hBN
        try simp only [sv]
        refine hK.out _ _ ?_ (fun hHeld => ?_)
        · exact ⟨⟨c0, c1, c2, c3, c4, c5, c6, c7, c8, c9, c10, c11⟩, ft, hb⟩
        clear hK K c0 c1 c2 c3 c4 c5 c6 c7 c8 c9 c10 c11 ft hb
        try simp only [Act.put, List.getElem_toArray, List.getElem_cons_succ, List.getElem_cons_zero, List.setIfInBounds_toArray, List.set_cons_zero, List.set_cons_succ]
        refine wpAnyH_ready (rs := [8]) (by kernel_rfl) (by simp) ?_
        refine AllReadyH.cons rfl (fun K hK => ?_) AllReadyH.nil
        obtain ⟨⟨c0, c1, c2, c3, c4, c5, c6, c7, c8, c9, c10, c11⟩, ft, hb⟩ := hHeld
        have hZ0 := Z.c0; have hZ1 := Z.c1; have hZ2 := Z.c2; have hZ3 := Z.c3
        have hF0 := Z.fz 0; have hF1 := Z.fz 1; have hF2 := Z.fz 2; have hF3 := Z.fz 3
        go_simp
        refine hK.out _ _ ?_ (fun hHeld => ?_)
        · exact ⟨⟨cell_set4 c0 n0, cell_set4 c1 n0, cell_set4 c2 n0, cell_set4 c3 n0, cell_set4 c4 n1, cell_set4 c5 n1, cell_set4 c6 n1, cell_set4 c7 n1, cell_set4 c8 n2, cell_set4 c9 n2, cell_set4 c10 n2, cell_set4 c11 n2⟩, ft.set4 np _ _ _ _, Below.set4 hb (Nat.le_of_lt l0) _ _ _ _⟩
        clear hK K
        try simp only [Act.put, List.getElem_toArray, List.getElem_cons_succ, List.getElem_cons_zero, List.setIfInBounds_toArray, List.set_cons_zero, List.set_cons_succ]
        refine wpAnyH_done (by kernel_rfl) ?_ _
        refine NoPanic.normal ?_
        exact HR.out _ _ _ hHeld (Z.set (.int .u64 (wd q 0)) (.int .u64 (wd q 1)) (.int .u64 (wd q 2)) (.int .u64 (wd q 3)))
    · obtain ⟨⟨c0, c1, c2, c3, c4, c5, c6, c7, c8, c9, c10, c11⟩, ft, hb⟩ := hHeld
      have Z : Four (World.alloc (wN) (.cells #[.int .u64 0, .int .u64 0, .int .u64 0, .int .u64 0] 24)) (wN.heap.size) 24 (.int .u64 0) (.int .u64 0) (.int .u64 0) (.int .u64 0) := by have := Four.new (wN) 24 (.int .u64 0) (.int .u64 0) (.int .u64 0) (.int .u64 0); exact this
      have l0 := cell_lt c0
      have l1 := cell_lt c4
      have l2 := cell_lt c8
      have n0 : wN.heap.size ≠ w.heap.size := by omega
      have n1 : wN.heap.size ≠ w.heap.size + 1 := by omega
      have n2 : wN.heap.size ≠ w1.heap.size := by omega
      have np : 0 < wN.heap.size := by omega
      go_simp
      refine hK.out _ _ ?_ (fun hHeld => ?_)
      · exact ⟨⟨cell_alloc1 _ c0, cell_alloc1 _ c1, cell_alloc1 _ c2, cell_alloc1 _ c3, cell_alloc1 _ c4, cell_alloc1 _ c5, cell_alloc1 _ c6, cell_alloc1 _ c7, cell_alloc1 _ c8, cell_alloc1 _ c9, cell_alloc1 _ c10, cell_alloc1 _ c11⟩, ft.alloc _, hb.alloc hb.size _⟩
      clear hK K c0 c1 c2 c3 c4 c5 c6 c7 c8 c9 c10 c11 ft hb
      try simp only [Act.put, List.getElem_toArray, List.getElem_cons_succ, List.getElem_cons_zero, List.setIfInBounds_toArray, List.set_cons_zero, List.set_cons_succ]
      refine wpAnyH_ready (rs := [3]) (by kernel_rfl) (by simp) ?_
      refine AllReadyH.cons rfl (fun K hK => ?_) AllReadyH.nil
      obtain ⟨⟨c0, c1, c2, c3, c4, c5, c6, c7, c8, c9, c10, c11⟩, ft, hb⟩ := hHeld
      go_simp
      refine (N2.out _).mono ?_
      rintro e wN ⟨rfl, hBN⟩
      replace c0 := cell_keep hBN c0; replace c1 := cell_keep hBN c1; replace c2 := cell_keep hBN c2; replace c3 := cell_keep hBN c3; replace c4 := cell_keep hBN c4; replace c5 := cell_keep hBN c5; replace c6 := cell_keep hBN c6; replace c7 := cell_keep hBN c7; replace c8 := cell_keep hBN c8; replace c9 := cell_keep hBN c9; replace c10 := cell_keep hBN c10; replace c11 := cell_keep hBN c11
      replace ft := ft.below hBN; replace hb := hb.trans (hBN.mono hb.size)
      replace Z := Z.below hBN Z.lt
      clear hBN
      try simp only [sv]
      refine hK.out _ _ ?_ (fun hHeld => ?_)
      · exact ⟨⟨c0, c1, c2, c3, c4, c5, c6, c7, c8, c9, c10, c11⟩, ft, hb⟩
      clear hK K c0 c1 c2 c3 c4 c5 c6 c7 c8 c9 c10 c11 ft hb
      try simp only [Act.put, List.getElem_toArray, List.getElem_cons_succ, List.getElem_cons_zero, List.setIfInBounds_toArray, List.set_cons_zero, List.set_cons_succ]
      refine wpAnyH_ready (rs := [4]) (by kernel_rfl) (by simp) ?_
      refine AllReadyH.cons rfl (fun K hK => ?_) AllReadyH.nil
      obtain ⟨⟨c0, c1, c2, c3, c4, c5, c6, c7, c8, c9, c10, c11⟩, ft, hb⟩ := hHeld
      go_simp
      refine hK.out _ _ ?_ (fun hHeld => ?_)
      · exact ⟨⟨cell_alloc1 _ c0, cell_alloc1 _ c1, cell_alloc1 _ c2, cell_alloc1 _ c3, cell_alloc1 _ c4, cell_alloc1 _ c5, cell_alloc1 _ c6, cell_alloc1 _ c7, cell_alloc1 _ c8, cell_alloc1 _ c9, cell_alloc1 _ c10, cell_alloc1 _ c11⟩, ft.alloc _, hb.alloc hb.size _⟩
      clear hK K c0 c1 c2 c3 c4 c5 c6 c7 c8 c9 c10 c11 ft hb
      try simp only [Act.put, List.getElem_toArray, List.getElem_cons_succ, List.getElem_cons_zero, List.setIfInBounds_toArray, List.set_cons_zero, List.set_cons_succ]
      replace Z := Z.alloc (.cells #[.int .u64 (wd m 0), .int .u64 (wd m 1), .int .u64 (wd m 2), .int .u64 (wd m 3), .int .u64 (wd n 0), .int .u64 (wd n 1), .int .u64 (wd n 2), .int .u64 (wd n 3)] 24)
      refine wpAnyH_ready (rs := [5]) (by kernel_rfl) (by simp) ?_
      refine AllReadyH.cons rfl (fun K hK => ?_) AllReadyH.nil
      obtain ⟨⟨c0, c1, c2, c3, c4, c5, c6, c7, c8, c9, c10, c11⟩, ft, hb⟩ := hHeld
      go_simp
      refine (HO4.out _ _ _ (by first | exact heap_new _ _ | exact heap_new2 _ _ _)).mono ?_
      rintro e wN ⟨rfl, hBN⟩
      replace c0 := cell_keep hBN c0; replace c1 := cell_keep hBN c1; replace c2 := cell_keep hBN c2; replace c3 := cell_keep hBN c3; replace c4 := cell_keep hBN c4; replace c5 := cell_keep hBN c5; replace c6 := cell_keep hBN c6; replace c7 := cell_keep hBN c7; replace c8 := cell_keep hBN c8; replace c9 := cell_keep hBN c9; replace c10 := cell_keep hBN c10; replace c11 := cell_keep hBN c11
      replace ft := ft.below hBN; replace hb := hb.trans (hBN.mono hb.size)
      replace Z := Z.below hBN Z.lt
      clear hBN
      try simp only [sv]
      refine hK.out _ _ ?_ (fun hHeld => ?_)
      · exact ⟨⟨c0, c1, c2, c3, c4, c5, c6, c7, c8, c9, c10, c11⟩, ft, hb⟩
      clear hK K c0 c1 c2 c3 c4 c5 c6 c7 c8 c9 c10 c11 ft hb
      try simp only [Act.put, List.getElem_toArray, List.getElem_cons_succ, List.getElem_cons_zero, List.setIfInBounds_toArray, List.set_cons_zero, List.set_cons_succ]
      refine wpAnyH_ready (rs := [6]) (by kernel_rfl) (by simp) ?_
      refine AllReadyH.cons rfl (fun K hK => ?_) AllReadyH.nil
      obtain ⟨⟨c0, c1, c2, c3, c4, c5, c6, c7, c8, c9, c10, c11⟩, ft, hb⟩ := hHeld
      go_simp
      refine (N3.out _).mono ?_
      rintro e wN ⟨rfl, hBN⟩
      replace c0 := cell_keep hBN c0; replace c1 := cell_keep hBN c1; replace c2 := cell_keep hBN c2; replace c3 := cell_keep hBN c3; replace c4 := cell_keep hBN c4; replace c5 := cell_keep hBN c5; replace c6 := cell_keep hBN c6; replace c7 := cell_keep hBN c7; replace c8 := cell_keep hBN c8; replace c9 := cell_keep hBN c9; replace c10 := cell_keep hBN c10; replace c11 := cell_keep hBN c11
      replace ft := ft.below hBN; replace hb := hb.trans (hBN.mono hb.size)
      replace Z := Z.below hBN Z.lt
      clear hBN
      try simp only [sv]
      refine hK.out _ _ ?_ (fun hHeld => ?_)
      · exact ⟨⟨c0, c1, c2, c3, c4, c5, c6, c7, c8, c9, c10, c11⟩, ft, hb⟩
      clear hK K c0 c1 c2 c3 c4 c5 c6 c7 c8 c9 c10 c11 ft hb
      try simp only [Act.put, List.getElem_toArray, List.getElem_cons_succ, List.getElem_cons_zero, List.setIfInBounds_toArray, List.set_cons_zero, List.set_cons_succ]
      refine wpAnyH_ready (rs := [8]) (by kernel_rfl) (by simp) ?_
      refine AllReadyH.cons rfl (fun K hK => ?_) AllReadyH.nil
      obtain ⟨⟨c0, c1, c2, c3, c4, c5, c6, c7, c8, c9, c10, c11⟩, ft, hb⟩ := hHeld
      have hZ0 := Z.c0; have hZ1 := Z.c1; have hZ2 := Z.c2; have hZ3 := Z.c3
      have hF0 := Z.fz 0; have hF1 := Z.fz 1; have hF2 := Z.fz 2; have hF3 := Z.fz 3
      go_simp
      refine hK.out _ _ ?_ (fun hHeld => ?_)
      · exact ⟨⟨cell_set4 c0 n0, cell_set4 c1 n0, cell_set4 c2 n0, cell_set4 c3 n0, cell_set4 c4 n1, cell_set4 c5 n1, cell_set4 c6 n1, cell_set4 c7 n1, cell_set4 c8 n2, cell_set4 c9 n2, cell_set4 c10 n2, cell_set4 c11 n2⟩, ft.set4 np _ _ _ _, Below.set4 hb (Nat.le_of_lt l0) _ _ _ _⟩
      clear hK K
      try simp only [Act.put, List.getElem_toArray, List.getElem_cons_succ, List.getElem_cons_zero, List.setIfInBounds_toArray, List.set_cons_zero, List.set_cons_succ]
      refine wpAnyH_done (by kernel_rfl) ?_ _
      refine NoPanic.normal ?_
      exact HR.out _ _ _ hHeld (Z.set (.int .u64 (wd q 0)) (.int .u64 (wd q 1)) (.int .u64 (wd q 2)) (.int .u64 (wd q 3)))
  · obtain ⟨⟨c0, c1, c2, c3, c4, c5, c6, c7, c8, c9, c10, c11⟩, ft, hb⟩ := hHeld
    have Z : Four (World.alloc ((w1.alloc (.cells #[.int .u64 (wd u 0), .int .u64 (wd u 1), .int .u64 (wd u 2), .int .u64 (wd u 3)] 24)).drew) (.cells #[.int .u64 0, .int .u64 0, .int .u64 0, .int .u64 0] 24)) (w1.heap.size + 1) 24 (.int .u64 0) (.int .u64 0) (.int .u64 0) (.int .u64 0) := by have := Four.new ((w1.alloc (.cells #[.int .u64 (wd u 0), .int .u64 (wd u 1), .int .u64 (wd u 2), .int .u64 (wd u 3)] 24)).drew) 24 (.int .u64 0) (.int .u64 0) (.int .u64 0) (.int .u64 0); rwa [show ((w1.alloc (.cells #[.int .u64 (wd u 0), .int .u64 (wd u 1), .int .u64 (wd u 2), .int .u64 (wd u 3)] 24)).drew).heap.size = w1.heap.size + 1 from World.size_alloc _ _] at this
    have l0 : w.heap.size < w1.heap.size + 1 := by omega
    have l1 : w.heap.size + 1 < w1.heap.size + 1 := by omega
    have l2 : w1.heap.size < w1.heap.size + 1 := by omega
    have n0 : w1.heap.size + 1 ≠ w.heap.size := by omega
    have n1 : w1.heap.size + 1 ≠ w.heap.size + 1 := by omega
    have n2 : w1.heap.size + 1 ≠ w1.heap.size := by omega
    have np : 0 < w1.heap.size + 1 := by omega
    go_simp
    refine hK.out _ _ ?_ (fun hHeld => ?_)
    · exact ⟨⟨cell_alloc1 _ c0, cell_alloc1 _ c1, cell_alloc1 _ c2, cell_alloc1 _ c3, cell_alloc1 _ c4, cell_alloc1 _ c5, cell_alloc1 _ c6, cell_alloc1 _ c7, cell_alloc1 _ c8, cell_alloc1 _ c9, cell_alloc1 _ c10, cell_alloc1 _ c11⟩, ft.alloc _, hb.alloc hb.size _⟩
    clear hK K c0 c1 c2 c3 c4 c5 c6 c7 c8 c9 c10 c11 ft hb
    try simp only [Act.put, List.getElem_toArray, List.getElem_cons_succ, List.getElem_cons_zero, List.setIfInBounds_toArray, List.set_cons_zero, List.set_cons_succ]
    refine wpAnyH_ready (rs := [1]) (by kernel_rfl) (by simp) ?_
    refine AllReadyH.cons rfl (fun K hK => ?_) AllReadyH.nil
    obtain ⟨⟨c0, c1, c2, c3, c4, c5, c6, c7, c8, c9, c10, c11⟩, ft, hb⟩ := hHeld
    go_simp
    refine (N1.out _).mono ?_
    rintro e wN ⟨rfl, hBN⟩
    replace c0 := cell_keep hBN c0; replace c1 := cell_keep hBN c1; replace c2 := cell_keep hBN c2; replace c3 := cell_keep hBN c3; replace c4 := cell_keep hBN c4; replace c5 := cell_keep hBN c5; replace c6 := cell_keep hBN c6; replace c7 := cell_keep hBN c7; replace c8 := cell_keep hBN c8; replace c9 := cell_keep hBN c9; replace c10 := cell_keep hBN c10; replace c11 := cell_keep hBN c11
    replace ft := ft.below hBN; replace hb := hb.trans (hBN.mono hb.size)
    replace Z := Z.below hBN Z.lt
    clear hBN
    try simp only [sv]
    refine hK.out _ _ ?_ (fun hHeld => ?_)
    · exact ⟨⟨c0, c1, c2, c3, c4, c5, c6, c7, c8, c9, c10, c11⟩, ft, hb⟩
    clear hK K c0 c1 c2 c3 c4 c5 c6 c7 c8 c9 c10 c11 ft hb
    try simp only [Act.put, List.getElem_toArray, List.getElem_cons_succ, List.getElem_cons_zero, List.setIfInBounds_toArray, List.set_cons_zero, List.set_cons_succ]
    refine wpAnyH_ready (rs := [3]) (by kernel_rfl) (by simp) ?_
    refine AllReadyH.cons rfl (fun K hK => ?_) AllReadyH.nil
    obtain ⟨⟨c0, c1, c2, c3, c4, c5, c6, c7, c8, c9, c10, c11⟩, ft, hb⟩ := hHeld
    go_simp
    refine (N2.out _).mono ?_
    rintro e wN ⟨rfl, hBN⟩
    replace c0 := cell_keep hBN c0; replace c1 := cell_keep hBN c1; replace c2 := cell_keep hBN c2; replace c3 := cell_keep hBN c3; replace c4 := cell_keep hBN c4; replace c5 := cell_keep hBN c5; replace c6 := cell_keep hBN c6; replace c7 := cell_keep hBN c7; replace c8 := cell_keep hBN c8; replace c9 := cell_keep hBN c9; replace c10 := cell_keep hBN c10; replace c11 := cell_keep hBN c11
    replace ft := ft.below hBN; replace hb := hb.trans (hBN.mono hb.size)
    replace Z := Z.below hBN Z.lt
    clear hBN
    try simp only [sv]
    refine hK.out _ _ ?_ (fun hHeld => ?_)
    · exact ⟨⟨c0, c1, c2, c3, c4, c5, c6, c7, c8, c9, c10, c11⟩, ft, hb⟩
    clear hK K c0 c1 c2 c3 c4 c5 c6 c7 c8 c9 c10 c11 ft hb
    try simp only [Act.put, List.getElem_toArray, List.getElem_cons_succ, List.getElem_cons_zero, List.setIfInBounds_toArray, List.set_cons_zero, List.set_cons_succ]
    refine wpAnyH_ready (rs := [4]) (by kernel_rfl) (by simp) ?_
    refine AllReadyH.cons rfl (fun K hK => ?_) AllReadyH.nil
    obtain ⟨⟨c0, c1, c2, c3, c4, c5, c6, c7, c8, c9, c10, c11⟩, ft, hb⟩ := hHeld
    go_simp
    refine hK.out _ _ ?_ (fun hHeld => ?_)
    · exact ⟨⟨cell_alloc1 _ c0, cell_alloc1 _ c1, cell_alloc1 _ c2, cell_alloc1 _ c3, cell_alloc1 _ c4, cell_alloc1 _ c5, cell_alloc1 _ c6, cell_alloc1 _ c7, cell_alloc1 _ c8, cell_alloc1 _ c9, cell_alloc1 _ c10, cell_alloc1 _ c11⟩, ft.alloc _, hb.alloc hb.size _⟩
    clear hK K c0 c1 c2 c3 c4 c5 c6 c7 c8 c9 c10 c11 ft hb
    try simp only [Act.put, List.getElem_toArray, List.getElem_cons_succ, List.getElem_cons_zero, List.setIfInBounds_toArray, List.set_cons_zero, List.set_cons_succ]
    replace Z := Z.alloc (.cells #[.int .u64 (wd m 0), .int .u64 (wd m 1), .int .u64 (wd m 2), .int .u64 (wd m 3), .int .u64 (wd n 0), .int .u64 (wd n 1), .int .u64 (wd n 2), .int .u64 (wd n 3)] 24)
    refine wpAnyH_ready (rs := [5]) (by kernel_rfl) (by simp) ?_
    refine AllReadyH.cons rfl (fun K hK => ?_) AllReadyH.nil
    obtain ⟨⟨c0, c1, c2, c3, c4, c5, c6, c7, c8, c9, c10, c11⟩, ft, hb⟩ := hHeld
    go_simp
    refine (HO4.out _ _ _ (by first | exact heap_new _ _ | exact heap_new2 _ _ _)).mono ?_
    rintro e wN ⟨rfl, hBN⟩
    replace c0 := cell_keep hBN c0; replace c1 := cell_keep hBN c1; replace c2 := cell_keep hBN c2; replace c3 := cell_keep hBN c3; replace c4 := cell_keep hBN c4; replace c5 := cell_keep hBN c5; replace c6 := cell_keep hBN c6; replace c7 := cell_keep hBN c7; replace c8 := cell_keep hBN c8; replace c9 := cell_keep hBN c9; replace c10 := cell_keep hBN c10; replace c11 := cell_keep hBN c11
    replace ft := ft.below hBN; replace hb := hb.trans (hBN.mono hb.size)
    replace Z := Z.below hBN Z.lt
    clear hBN
    try simp only [sv]
    refine hK.out _ _ ?_ (fun hHeld => ?_)
    · exact ⟨⟨c0, c1, c2, c3, c4, c5, c6, c7, c8, c9, c10, c11⟩, ft, hb⟩
    clear hK K c0 c1 c2 c3 c4 c5 c6 c7 c8 c9 c10 c11 ft hb
    try simp only [Act.put, List.getElem_toArray, List.getElem_cons_succ, List.getElem_cons_zero, List.setIfInBounds_toArray, List.set_cons_zero, List.set_cons_succ]
    refine wpAnyH_ready (rs := [6]) (by kernel_rfl) (by simp) ?_
    refine AllReadyH.cons rfl (fun K hK => ?_) AllReadyH.nil
    obtain ⟨⟨c0, c1, c2, c3, c4, c5, c6, c7, c8, c9, c10, c11⟩, ft, hb⟩ := hHeld
    go_simp
    refine (N3.out _).mono ?_
    rintro e wN ⟨rfl, hBN⟩
    replace c0 := cell_keep hBN c0; replace c1 := cell_keep hBN c1; replace c2 := cell_keep hBN c2; replace c3 := cell_keep hBN c3; replace c4 := cell_keep hBN c4; replace c5 := cell_keep hBN c5; replace c6 := cell_keep hBN c6; replace c7 := cell_keep hBN c7; replace c8 := cell_keep hBN c8; replace c9 := cell_keep hBN c9; replace c10 := cell_keep hBN c10; replace c11 := cell_keep hBN c11
    replace ft := ft.below hBN; replace hb := hb.trans (hBN.mono hb.size)
    replace Z := Z.below hBN Z.lt
    clear hBN
    try simp only [sv]
    refine hK.out _ _ ?_ (fun hHeld => ?_)
    · exact ⟨⟨c0, c1, c2, c3, c4, c5, c6, c7, c8, c9, c10, c11⟩, ft, hb⟩
    clear hK K c0 c1 c2 c3 c4 c5 c6 c7 c8 c9 c10 c11 ft hb
    try simp only [Act.put, List.getElem_toArray, List.getElem_cons_succ, List.getElem_cons_zero, List.setIfInBounds_toArray, List.set_cons_zero, List.set_cons_succ]
    refine wpAnyH_ready (rs := [8]) (by kernel_rfl) (by simp) ?_
    refine AllReadyH.cons rfl (fun K hK => ?_) AllReadyH.nil
    obtain ⟨⟨c0, c1, c2, c3, c4, c5, c6, c7, c8, c9, c10, c11⟩, ft, hb⟩ := hHeld
    have hZ0 := Z.c0; have hZ1 := Z.c1; have hZ2 := Z.c2; have hZ3 := Z.c3
    have hF0 := Z.fz 0; have hF1 := Z.fz 1; have hF2 := Z.fz 2; have hF3 := Z.fz 3
    go_simp
    refine hK.out _ _ ?_ (fun hHeld => ?_)
    · exact ⟨⟨cell_set4 c0 n0, cell_set4 c1 n0, cell_set4 c2 n0, cell_set4 c3 n0, cell_set4 c4 n1, cell_set4 c5 n1, cell_set4 c6 n1, cell_set4 c7 n1, cell_set4 c8 n2, cell_set4 c9 n2, cell_set4 c10 n2, cell_set4 c11 n2⟩, ft.set4 np _ _ _ _, Below.set4 hb (Nat.le_of_lt l0) _ _ _ _⟩
    clear hK K
    try simp only [Act.put, List.getElem_toArray, List.getElem_cons_succ, List.getElem_cons_zero, List.setIfInBounds_toArray, List.set_cons_zero, List.set_cons_succ]
    refine wpAnyH_done (by kernel_rfl) ?_ _
    refine NoPanic.normal ?_
    exact HR.out _ _ _ hHeld (Z.set (.int .u64 (wd q 0)) (.int .u64 (wd q 1)) (.int .u64 (wd q 2)) (.int .u64 (wd q 3)))

end Go.Proofs.YtblogejljilcdaaDoor
