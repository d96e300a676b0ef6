/- SetBack: the walk. -/
import Derived.Test.YtdcekdjpbkchmaaDoorSetS
import Derived.Test.YtdcekdjpbkchmaaDoorSetQ
import Derived.Test.YtdcekdjpbkchmaaDoorSetO
import Derived.Deep.RegionHeld3
namespace Go.Proofs.YtdcekdjpbkchmaaDoor
open Go.RowKit
set_option linter.unusedVariables false
set_option linter.unusedSimpArgs false

theorem Fit.drew {w : World} (h : Fit w) : Fit w.drew := ⟨h.tab, h.pos⟩

set_option maxHeartbeats 20000000 in
theorem back_in (b : Nat) (hb : b < 256) (s n u : Nat → Bool) (t : ByteArray) (z1 z2 : Int) (hz : z1 + z2 = 256)
    (hn : ∀ w, Calls Tryd.prog 19 #[sv s] w fun e w' => e = .returned (sv n) ∧ Below w.heap.size w w')
    (hnn : ∀ w, Calls Tryd.prog 19 #[sv n] w fun e w' => e = .returned (sv s) ∧ Below w.heap.size w w')
    (hn0 : ∀ w, Calls Tryd.prog 19 #[.agg #[.int .u64 0, .int .u64 0, .int .u64 0, .int .u64 0]] w fun e w' => e = .returned (sv u) ∧ Below w.heap.size w w')
    (hy : ∀ w, Fit w → Calls Tryd.prog 25 #[sv s] w fun e w' => e = .returned (.string t) ∧ Below w.heap.size w w')
    (ht : ∀ w, Calls Tryd.prog 12 #[.string t] w fun e w' => e = .returned (sv s) ∧ Below w.heap.size w w')
    (ho : ∀ (B cap : Nat) w, w.heap[B]? = some (.cells #[.int .u64 (wd s 0), .int .u64 (wd s 1), .int .u64 (wd s 2), .int .u64 (wd s 3), .int .u64 (wd n 0), .int .u64 (wd n 1), .int .u64 (wd n 2), .int .u64 (wd n 3)] 24 (0, 0)) → Calls Tryd.prog 17 #[.slice (some ⟨B, 0, none⟩) 2 cap] w fun e w' => e = .returned (sv u) ∧ Below w.heap.size w w')
    (h1 : ∀ w, Calls Tryd.prog 14 #[sv s, .int .u8 b] w fun e w' => e = .returned (.bool true) ∧ Below w.heap.size w w')
    (h2 : ∀ w, Calls Tryd.prog 14 #[sv n, .int .u8 b] w fun e w' => e = .returned (.bool false) ∧ Below w.heap.size w w')
    (h3 : ∀ w, Calls Tryd.prog 23 #[sv s] w fun e w' => e = .returned (.int .i64 z1) ∧ Below w.heap.size w w')
    (h4 : ∀ w, Calls Tryd.prog 23 #[sv n] w fun e w' => e = .returned (.int .i64 z2) ∧ Below w.heap.size w w')
    (w : World) (hw : Fit w) :
    Calls Tryd.prog 5 #[sv s, .int .u8 b] w fun e w' => e = .returned (.bool true) ∧ Below w.heap.size w w' := by
  have HN := Lib.hid hn; have HNN := Lib.hid hnn; have HN0 := Lib.hid hn0; have HY := Lib.hid hy; have HT := Lib.hid ht; have HO := Lib.hid ho; have H1 := Lib.hid h1; have H2 := Lib.hid h2; have H3 := Lib.hid h3; have H4 := Lib.hid h4; have HX := Lib.hid (fun w hw => shown_c w hw)
  clear hn hnn hn0 hy ht ho h1 h2 h3 h4
  unfold sv
  go_enter Tryd.func5, Tryd.ntmps5
  go_wp2_with fail
  have S0 := Four.new w 24 (.int .u64 (wd s 0)) (.int .u64 (wd s 1)) (.int .u64 (wd s 2)) (.int .u64 (wd s 3))
  have f0 := hw.alloc (.cells #[.int .u64 (wd s 0), .int .u64 (wd s 1), .int .u64 (wd s 2), .int .u64 (wd s 3)] 24)
  have b0 : Below w.heap.size w (w.alloc (.cells #[.int .u64 (wd s 0), .int .u64 (wd s 1), .int .u64 (wd s 2), .int .u64 (wd s 3)] 24)) := (Below.refl _ w).alloc (Nat.le_refl _) _
  refine (HN.out _).mono ?_
  rintro e w1 ⟨rfl, hB1⟩
  have S1 := S0.below hB1 S0.lt
  have hlt := S1.lt
  have f1 := f0.below hB1
  have b1 := b0.trans (hB1.mono b0.size)
  have F1 := Four.new w1 24 (.int .u64 (wd n 0)) (.int .u64 (wd n 1)) (.int .u64 (wd n 2)) (.int .u64 (wd n 3))
  have S1' := S1.alloc (.cells #[.int .u64 (wd n 0), .int .u64 (wd n 1), .int .u64 (wd n 2), .int .u64 (wd n 3)] 24)
  have f1' := f1.alloc (.cells #[.int .u64 (wd n 0), .int .u64 (wd n 1), .int .u64 (wd n 2), .int .u64 (wd n 3)] 24)
  have b1' : Below w.heap.size w (w1.alloc (.cells #[.int .u64 (wd n 0), .int .u64 (wd n 1), .int .u64 (wd n 2), .int .u64 (wd n 3)] 24)) := b1.alloc b1.size _
  clear S0 f0 b0 hB1 f1 b1
  simp only [sv]
  go_wp2_with fail
  have S1dc0 := S1'.c0; have S1dc1 := S1'.c1; have S1dc2 := S1'.c2; have S1dc3 := S1'.c3
  have F1c0 := F1.c0; have F1c1 := F1.c1; have F1c2 := F1.c2; have F1c3 := F1.c3
  have hqs := eq_set s
  have hqu := eq_set u
  go_region_held3 (fun w' => (w'.cell? ⟨w.heap.size, 0, none⟩ = some (.int .u64 (wd s 0)) ∧ w'.cell? ⟨w.heap.size, 1, none⟩ = some (.int .u64 (wd s 1)) ∧ w'.cell? ⟨w.heap.size, 2, none⟩ = some (.int .u64 (wd s 2)) ∧ w'.cell? ⟨w.heap.size, 3, none⟩ = some (.int .u64 (wd s 3)) ∧ w'.cell? ⟨w1.heap.size, 0, none⟩ = some (.int .u64 (wd n 0)) ∧ w'.cell? ⟨w1.heap.size, 1, none⟩ = some (.int .u64 (wd n 1)) ∧ w'.cell? ⟨w1.heap.size, 2, none⟩ = some (.int .u64 (wd n 2)) ∧ w'.cell? ⟨w1.heap.size, 3, none⟩ = some (.int .u64 (wd n 3))) ∧ Fit w' ∧ Below w.heap.size w w') (first | with_reducible assumption | ((repeat' apply And.intro) <;> first | with_reducible assumption | with_reducible exact cell_alloc1 _ (by with_reducible assumption) | exact Fit.drew (by with_reducible assumption) | exact Fit.alloc (by with_reducible assumption) _ | exact Below.drew (by with_reducible assumption) | exact Below.alloc (by with_reducible assumption) (Below.size (by with_reducible assumption)) _ | go_keep))
    (first
      | (go_at_call 25; have hh := ‹_ ∧ Fit _ ∧ Below _ _ _›; obtain ⟨⟨c0, c1, c2, c3, c4, c5, c6, c7⟩, ft, hb⟩ := hh; refine (HY.out _ ft).mono ?_; rintro e wN ⟨rfl, hBN⟩; have c0 := cell_keep hBN c0; have c1 := cell_keep hBN c1; have c2 := cell_keep hBN c2; have c3 := cell_keep hBN c3; have c4 := cell_keep hBN c4; have c5 := cell_keep hBN c5; have c6 := cell_keep hBN c6; have c7 := cell_keep hBN c7; have ft := ft.below hBN; have hb := hb.trans (hBN.mono hb.size); clear hBN; try simp only [sv])
      | (go_at_call 12; have hh := ‹_ ∧ Fit _ ∧ Below _ _ _›; obtain ⟨⟨c0, c1, c2, c3, c4, c5, c6, c7⟩, ft, hb⟩ := hh; refine (HT.out _).mono ?_; rintro e wN ⟨rfl, hBN⟩; have c0 := cell_keep hBN c0; have c1 := cell_keep hBN c1; have c2 := cell_keep hBN c2; have c3 := cell_keep hBN c3; have c4 := cell_keep hBN c4; have c5 := cell_keep hBN c5; have c6 := cell_keep hBN c6; have c7 := cell_keep hBN c7; have ft := ft.below hBN; have hb := hb.trans (hBN.mono hb.size); clear hBN; try simp only [sv])
      | (go_at_call_of 19 (wd n 0); have hh := ‹_ ∧ Fit _ ∧ Below _ _ _›; obtain ⟨⟨c0, c1, c2, c3, c4, c5, c6, c7⟩, ft, hb⟩ := hh; refine (HNN.out _).mono ?_; rintro e wN ⟨rfl, hBN⟩; have c0 := cell_keep hBN c0; have c1 := cell_keep hBN c1; have c2 := cell_keep hBN c2; have c3 := cell_keep hBN c3; have c4 := cell_keep hBN c4; have c5 := cell_keep hBN c5; have c6 := cell_keep hBN c6; have c7 := cell_keep hBN c7; have ft := ft.below hBN; have hb := hb.trans (hBN.mono hb.size); clear hBN; try simp only [sv])
      | (go_at_call 19; have hh := ‹_ ∧ Fit _ ∧ Below _ _ _›; obtain ⟨⟨c0, c1, c2, c3, c4, c5, c6, c7⟩, ft, hb⟩ := hh; refine (HN0.out _).mono ?_; rintro e wN ⟨rfl, hBN⟩; have c0 := cell_keep hBN c0; have c1 := cell_keep hBN c1; have c2 := cell_keep hBN c2; have c3 := cell_keep hBN c3; have c4 := cell_keep hBN c4; have c5 := cell_keep hBN c5; have c6 := cell_keep hBN c6; have c7 := cell_keep hBN c7; have ft := ft.below hBN; have hb := hb.trans (hBN.mono hb.size); clear hBN; try simp only [sv])
      | (go_at_call_of 14 (wd s 0); have hh := ‹_ ∧ Fit _ ∧ Below _ _ _›; obtain ⟨⟨c0, c1, c2, c3, c4, c5, c6, c7⟩, ft, hb⟩ := hh; refine (H1.out _).mono ?_; rintro e wN ⟨rfl, hBN⟩; have c0 := cell_keep hBN c0; have c1 := cell_keep hBN c1; have c2 := cell_keep hBN c2; have c3 := cell_keep hBN c3; have c4 := cell_keep hBN c4; have c5 := cell_keep hBN c5; have c6 := cell_keep hBN c6; have c7 := cell_keep hBN c7; have ft := ft.below hBN; have hb := hb.trans (hBN.mono hb.size); clear hBN; try simp only [sv])
      | (go_at_call 14; have hh := ‹_ ∧ Fit _ ∧ Below _ _ _›; obtain ⟨⟨c0, c1, c2, c3, c4, c5, c6, c7⟩, ft, hb⟩ := hh; refine (H2.out _).mono ?_; rintro e wN ⟨rfl, hBN⟩; have c0 := cell_keep hBN c0; have c1 := cell_keep hBN c1; have c2 := cell_keep hBN c2; have c3 := cell_keep hBN c3; have c4 := cell_keep hBN c4; have c5 := cell_keep hBN c5; have c6 := cell_keep hBN c6; have c7 := cell_keep hBN c7; have ft := ft.below hBN; have hb := hb.trans (hBN.mono hb.size); clear hBN; try simp only [sv])
      | (go_at_call_of 23 (wd s 0); have hh := ‹_ ∧ Fit _ ∧ Below _ _ _›; obtain ⟨⟨c0, c1, c2, c3, c4, c5, c6, c7⟩, ft, hb⟩ := hh; refine (H3.out _).mono ?_; rintro e wN ⟨rfl, hBN⟩; have c0 := cell_keep hBN c0; have c1 := cell_keep hBN c1; have c2 := cell_keep hBN c2; have c3 := cell_keep hBN c3; have c4 := cell_keep hBN c4; have c5 := cell_keep hBN c5; have c6 := cell_keep hBN c6; have c7 := cell_keep hBN c7; have ft := ft.below hBN; have hb := hb.trans (hBN.mono hb.size); clear hBN; try simp only [sv])
      | (go_at_call 23; have hh := ‹_ ∧ Fit _ ∧ Below _ _ _›; obtain ⟨⟨c0, c1, c2, c3, c4, c5, c6, c7⟩, ft, hb⟩ := hh; refine (H4.out _).mono ?_; rintro e wN ⟨rfl, hBN⟩; have c0 := cell_keep hBN c0; have c1 := cell_keep hBN c1; have c2 := cell_keep hBN c2; have c3 := cell_keep hBN c3; have c4 := cell_keep hBN c4; have c5 := cell_keep hBN c5; have c6 := cell_keep hBN c6; have c7 := cell_keep hBN c7; have ft := ft.below hBN; have hb := hb.trans (hBN.mono hb.size); clear hBN; try simp only [sv])
      | (go_at_call 17; have hh := ‹_ ∧ Fit _ ∧ Below _ _ _›; obtain ⟨⟨c0, c1, c2, c3, c4, c5, c6, c7⟩, ft, hb⟩ := hh; refine (HO.out _ _ _ (by first | exact heap_new _ _ | (have := heap_new wN (.cells #[.int .u64 (wd s 0), .int .u64 (wd s 1), .int .u64 (wd s 2), .int .u64 (wd s 3), .int .u64 (wd n 0), .int .u64 (wd n 1), .int .u64 (wd n 2), .int .u64 (wd n 3)] 24); simpa using this))).mono ?_; rintro e wN ⟨rfl, hBN⟩; have c0 := cell_keep hBN c0; have c1 := cell_keep hBN c1; have c2 := cell_keep hBN c2; have c3 := cell_keep hBN c3; have c4 := cell_keep hBN c4; have c5 := cell_keep hBN c5; have c6 := cell_keep hBN c6; have c7 := cell_keep hBN c7; have ft := ft.below hBN; have hb := hb.trans (hBN.mono hb.size); clear hBN; try simp only [sv])
      | (go_at_call 10; have hh := ‹_ ∧ Fit _ ∧ Below _ _ _›; obtain ⟨⟨c0, c1, c2, c3, c4, c5, c6, c7⟩, ft, hb⟩ := hh; refine (HX.out _ ft).mono ?_; rintro e wN ⟨rfl, hBN⟩; have c0 := cell_keep hBN c0; have c1 := cell_keep hBN c1; have c2 := cell_keep hBN c2; have c3 := cell_keep hBN c3; have c4 := cell_keep hBN c4; have c5 := cell_keep hBN c5; have c6 := cell_keep hBN c6; have c7 := cell_keep hBN c7; have ft := ft.below hBN; have hb := hb.trans (hBN.mono hb.size); clear hBN; try simp only [sv]))
  all_goals (
    go_wp2
    go_ret
    exact ⟨rfl, by with_reducible assumption⟩)

set_option maxHeartbeats 20000000 in
theorem back_out (b : Nat) (hb : b < 256) (s n u : Nat → Bool) (t : ByteArray) (z1 z2 : Int) (hz : z1 + z2 = 256)
    (hn : ∀ w, Calls Tryd.prog 19 #[sv s] w fun e w' => e = .returned (sv n) ∧ Below w.heap.size w w')
    (hnn : ∀ w, Calls Tryd.prog 19 #[sv n] w fun e w' => e = .returned (sv s) ∧ Below w.heap.size w w')
    (hn0 : ∀ w, Calls Tryd.prog 19 #[.agg #[.int .u64 0, .int .u64 0, .int .u64 0, .int .u64 0]] w fun e w' => e = .returned (sv u) ∧ Below w.heap.size w w')
    (hy : ∀ w, Fit w → Calls Tryd.prog 25 #[sv s] w fun e w' => e = .returned (.string t) ∧ Below w.heap.size w w')
    (ht : ∀ w, Calls Tryd.prog 12 #[.string t] w fun e w' => e = .returned (sv s) ∧ Below w.heap.size w w')
    (ho : ∀ (B cap : Nat) w, w.heap[B]? = some (.cells #[.int .u64 (wd s 0), .int .u64 (wd s 1), .int .u64 (wd s 2), .int .u64 (wd s 3), .int .u64 (wd n 0), .int .u64 (wd n 1), .int .u64 (wd n 2), .int .u64 (wd n 3)] 24 (0, 0)) → Calls Tryd.prog 17 #[.slice (some ⟨B, 0, none⟩) 2 cap] w fun e w' => e = .returned (sv u) ∧ Below w.heap.size w w')
    (h1 : ∀ w, Calls Tryd.prog 14 #[sv s, .int .u8 b] w fun e w' => e = .returned (.bool false) ∧ Below w.heap.size w w')
    (h2 : ∀ w, Calls Tryd.prog 14 #[sv n, .int .u8 b] w fun e w' => e = .returned (.bool true) ∧ Below w.heap.size w w')
    (h3 : ∀ w, Calls Tryd.prog 23 #[sv s] w fun e w' => e = .returned (.int .i64 z1) ∧ Below w.heap.size w w')
    (h4 : ∀ w, Calls Tryd.prog 23 #[sv n] w fun e w' => e = .returned (.int .i64 z2) ∧ Below w.heap.size w w')
    (w : World) (hw : Fit w) :
    Calls Tryd.prog 5 #[sv s, .int .u8 b] w fun e w' => e = .returned (.bool true) ∧ Below w.heap.size w w' := by
  have HN := Lib.hid hn; have HNN := Lib.hid hnn; have HN0 := Lib.hid hn0; have HY := Lib.hid hy; have HT := Lib.hid ht; have HO := Lib.hid ho; have H1 := Lib.hid h1; have H2 := Lib.hid h2; have H3 := Lib.hid h3; have H4 := Lib.hid h4; have HX := Lib.hid (fun w hw => shown_c w hw)
  clear hn hnn hn0 hy ht ho h1 h2 h3 h4
  unfold sv
  go_enter Tryd.func5, Tryd.ntmps5
  go_wp2_with fail
  have S0 := Four.new w 24 (.int .u64 (wd s 0)) (.int .u64 (wd s 1)) (.int .u64 (wd s 2)) (.int .u64 (wd s 3))
  have f0 := hw.alloc (.cells #[.int .u64 (wd s 0), .int .u64 (wd s 1), .int .u64 (wd s 2), .int .u64 (wd s 3)] 24)
  have b0 : Below w.heap.size w (w.alloc (.cells #[.int .u64 (wd s 0), .int .u64 (wd s 1), .int .u64 (wd s 2), .int .u64 (wd s 3)] 24)) := (Below.refl _ w).alloc (Nat.le_refl _) _
  refine (HN.out _).mono ?_
  rintro e w1 ⟨rfl, hB1⟩
  have S1 := S0.below hB1 S0.lt
  have hlt := S1.lt
  have f1 := f0.below hB1
  have b1 := b0.trans (hB1.mono b0.size)
  have F1 := Four.new w1 24 (.int .u64 (wd n 0)) (.int .u64 (wd n 1)) (.int .u64 (wd n 2)) (.int .u64 (wd n 3))
  have S1' := S1.alloc (.cells #[.int .u64 (wd n 0), .int .u64 (wd n 1), .int .u64 (wd n 2), .int .u64 (wd n 3)] 24)
  have f1' := f1.alloc (.cells #[.int .u64 (wd n 0), .int .u64 (wd n 1), .int .u64 (wd n 2), .int .u64 (wd n 3)] 24)
  have b1' : Below w.heap.size w (w1.alloc (.cells #[.int .u64 (wd n 0), .int .u64 (wd n 1), .int .u64 (wd n 2), .int .u64 (wd n 3)] 24)) := b1.alloc b1.size _
  clear S0 f0 b0 hB1 f1 b1
  simp only [sv]
  go_wp2_with fail
  have S1dc0 := S1'.c0; have S1dc1 := S1'.c1; have S1dc2 := S1'.c2; have S1dc3 := S1'.c3
  have F1c0 := F1.c0; have F1c1 := F1.c1; have F1c2 := F1.c2; have F1c3 := F1.c3
  have hqs := eq_set s
  have hqu := eq_set u
  go_region_held3 (fun w' => (w'.cell? ⟨w.heap.size, 0, none⟩ = some (.int .u64 (wd s 0)) ∧ w'.cell? ⟨w.heap.size, 1, none⟩ = some (.int .u64 (wd s 1)) ∧ w'.cell? ⟨w.heap.size, 2, none⟩ = some (.int .u64 (wd s 2)) ∧ w'.cell? ⟨w.heap.size, 3, none⟩ = some (.int .u64 (wd s 3)) ∧ w'.cell? ⟨w1.heap.size, 0, none⟩ = some (.int .u64 (wd n 0)) ∧ w'.cell? ⟨w1.heap.size, 1, none⟩ = some (.int .u64 (wd n 1)) ∧ w'.cell? ⟨w1.heap.size, 2, none⟩ = some (.int .u64 (wd n 2)) ∧ w'.cell? ⟨w1.heap.size, 3, none⟩ = some (.int .u64 (wd n 3))) ∧ Fit w' ∧ Below w.heap.size w w') (first | with_reducible assumption | ((repeat' apply And.intro) <;> first | with_reducible assumption | with_reducible exact cell_alloc1 _ (by with_reducible assumption) | exact Fit.drew (by with_reducible assumption) | exact Fit.alloc (by with_reducible assumption) _ | exact Below.drew (by with_reducible assumption) | exact Below.alloc (by with_reducible assumption) (Below.size (by with_reducible assumption)) _ | go_keep))
    (first
      | (go_at_call 25; have hh := ‹_ ∧ Fit _ ∧ Below _ _ _›; obtain ⟨⟨c0, c1, c2, c3, c4, c5, c6, c7⟩, ft, hb⟩ := hh; refine (HY.out _ ft).mono ?_; rintro e wN ⟨rfl, hBN⟩; have c0 := cell_keep hBN c0; have c1 := cell_keep hBN c1; have c2 := cell_keep hBN c2; have c3 := cell_keep hBN c3; have c4 := cell_keep hBN c4; have c5 := cell_keep hBN c5; have c6 := cell_keep hBN c6; have c7 := cell_keep hBN c7; have ft := ft.below hBN; have hb := hb.trans (hBN.mono hb.size); clear hBN; try simp only [sv])
      | (go_at_call 12; have hh := ‹_ ∧ Fit _ ∧ Below _ _ _›; obtain ⟨⟨c0, c1, c2, c3, c4, c5, c6, c7⟩, ft, hb⟩ := hh; refine (HT.out _).mono ?_; rintro e wN ⟨rfl, hBN⟩; have c0 := cell_keep hBN c0; have c1 := cell_keep hBN c1; have c2 := cell_keep hBN c2; have c3 := cell_keep hBN c3; have c4 := cell_keep hBN c4; have c5 := cell_keep hBN c5; have c6 := cell_keep hBN c6; have c7 := cell_keep hBN c7; have ft := ft.below hBN; have hb := hb.trans (hBN.mono hb.size); clear hBN; try simp only [sv])
      | (go_at_call_of 19 (wd n 0); have hh := ‹_ ∧ Fit _ ∧ Below _ _ _›; obtain ⟨⟨c0, c1, c2, c3, c4, c5, c6, c7⟩, ft, hb⟩ := hh; refine (HNN.out _).mono ?_; rintro e wN ⟨rfl, hBN⟩; have c0 := cell_keep hBN c0; have c1 := cell_keep hBN c1; have c2 := cell_keep hBN c2; have c3 := cell_keep hBN c3; have c4 := cell_keep hBN c4; have c5 := cell_keep hBN c5; have c6 := cell_keep hBN c6; have c7 := cell_keep hBN c7; have ft := ft.below hBN; have hb := hb.trans (hBN.mono hb.size); clear hBN; try simp only [sv])
      | (go_at_call 19; have hh := ‹_ ∧ Fit _ ∧ Below _ _ _›; obtain ⟨⟨c0, c1, c2, c3, c4, c5, c6, c7⟩, ft, hb⟩ := hh; refine (HN0.out _).mono ?_; rintro e wN ⟨rfl, hBN⟩; have c0 := cell_keep hBN c0; have c1 := cell_keep hBN c1; have c2 := cell_keep hBN c2; have c3 := cell_keep hBN c3; have c4 := cell_keep hBN c4; have c5 := cell_keep hBN c5; have c6 := cell_keep hBN c6; have c7 := cell_keep hBN c7; have ft := ft.below hBN; have hb := hb.trans (hBN.mono hb.size); clear hBN; try simp only [sv])
      | (go_at_call_of 14 (wd s 0); have hh := ‹_ ∧ Fit _ ∧ Below _ _ _›; obtain ⟨⟨c0, c1, c2, c3, c4, c5, c6, c7⟩, ft, hb⟩ := hh; refine (H1.out _).mono ?_; rintro e wN ⟨rfl, hBN⟩; have c0 := cell_keep hBN c0; have c1 := cell_keep hBN c1; have c2 := cell_keep hBN c2; have c3 := cell_keep hBN c3; have c4 := cell_keep hBN c4; have c5 := cell_keep hBN c5; have c6 := cell_keep hBN c6; have c7 := cell_keep hBN c7; have ft := ft.below hBN; have hb := hb.trans (hBN.mono hb.size); clear hBN; try simp only [sv])
      | (go_at_call 14; have hh := ‹_ ∧ Fit _ ∧ Below _ _ _›; obtain ⟨⟨c0, c1, c2, c3, c4, c5, c6, c7⟩, ft, hb⟩ := hh; refine (H2.out _).mono ?_; rintro e wN ⟨rfl, hBN⟩; have c0 := cell_keep hBN c0; have c1 := cell_keep hBN c1; have c2 := cell_keep hBN c2; have c3 := cell_keep hBN c3; have c4 := cell_keep hBN c4; have c5 := cell_keep hBN c5; have c6 := cell_keep hBN c6; have c7 := cell_keep hBN c7; have ft := ft.below hBN; have hb := hb.trans (hBN.mono hb.size); clear hBN; try simp only [sv])
      | (go_at_call_of 23 (wd s 0); have hh := ‹_ ∧ Fit _ ∧ Below _ _ _›; obtain ⟨⟨c0, c1, c2, c3, c4, c5, c6, c7⟩, ft, hb⟩ := hh; refine (H3.out _).mono ?_; rintro e wN ⟨rfl, hBN⟩; have c0 := cell_keep hBN c0; have c1 := cell_keep hBN c1; have c2 := cell_keep hBN c2; have c3 := cell_keep hBN c3; have c4 := cell_keep hBN c4; have c5 := cell_keep hBN c5; have c6 := cell_keep hBN c6; have c7 := cell_keep hBN c7; have ft := ft.below hBN; have hb := hb.trans (hBN.mono hb.size); clear hBN; try simp only [sv])
      | (go_at_call 23; have hh := ‹_ ∧ Fit _ ∧ Below _ _ _›; obtain ⟨⟨c0, c1, c2, c3, c4, c5, c6, c7⟩, ft, hb⟩ := hh; refine (H4.out _).mono ?_; rintro e wN ⟨rfl, hBN⟩; have c0 := cell_keep hBN c0; have c1 := cell_keep hBN c1; have c2 := cell_keep hBN c2; have c3 := cell_keep hBN c3; have c4 := cell_keep hBN c4; have c5 := cell_keep hBN c5; have c6 := cell_keep hBN c6; have c7 := cell_keep hBN c7; have ft := ft.below hBN; have hb := hb.trans (hBN.mono hb.size); clear hBN; try simp only [sv])
      | (go_at_call 17; have hh := ‹_ ∧ Fit _ ∧ Below _ _ _›; obtain ⟨⟨c0, c1, c2, c3, c4, c5, c6, c7⟩, ft, hb⟩ := hh; refine (HO.out _ _ _ (by first | exact heap_new _ _ | (have := heap_new wN (.cells #[.int .u64 (wd s 0), .int .u64 (wd s 1), .int .u64 (wd s 2), .int .u64 (wd s 3), .int .u64 (wd n 0), .int .u64 (wd n 1), .int .u64 (wd n 2), .int .u64 (wd n 3)] 24); simpa using this))).mono ?_; rintro e wN ⟨rfl, hBN⟩; have c0 := cell_keep hBN c0; have c1 := cell_keep hBN c1; have c2 := cell_keep hBN c2; have c3 := cell_keep hBN c3; have c4 := cell_keep hBN c4; have c5 := cell_keep hBN c5; have c6 := cell_keep hBN c6; have c7 := cell_keep hBN c7; have ft := ft.below hBN; have hb := hb.trans (hBN.mono hb.size); clear hBN; try simp only [sv])
      | (go_at_call 10; have hh := ‹_ ∧ Fit _ ∧ Below _ _ _›; obtain ⟨⟨c0, c1, c2, c3, c4, c5, c6, c7⟩, ft, hb⟩ := hh; refine (HX.out _ ft).mono ?_; rintro e wN ⟨rfl, hBN⟩; have c0 := cell_keep hBN c0; have c1 := cell_keep hBN c1; have c2 := cell_keep hBN c2; have c3 := cell_keep hBN c3; have c4 := cell_keep hBN c4; have c5 := cell_keep hBN c5; have c6 := cell_keep hBN c6; have c7 := cell_keep hBN c7; have ft := ft.below hBN; have hb := hb.trans (hBN.mono hb.size); clear hBN; try simp only [sv]))
  all_goals (
    go_wp2
    go_ret
    exact ⟨rfl, by with_reducible assumption⟩)

theorem cnt_not (f : Nat → Bool) : ∀ n, cnt f n + cnt (fun i => !f i) n = n
  | 0 => rfl
  | n + 1 => by
    have := cnt_not f n
    rw [cnt, cnt]
    cases f n <;> simp <;> omega

theorem sv_none : sv (fun _ => false) = .agg #[.int .u64 0, .int .u64 0, .int .u64 0, .int .u64 0] := by
  have z : ∀ k, wd (fun _ => false) k = 0 := fun k => by
    symm; apply wd_ext (by omega); intro i hi; simp
  unfold sv
  rw [z, z, z, z]; rfl

theorem bytesOf_list (f : Nat → Bool) : (bytesOf f).data.toList = (U f 256).map fun x => UInt8.ofNat x.1 := by
  simp [bytesOf, strOfNums_data, nums]
theorem bytesOf_size (f : Nat → Bool) : (bytesOf f).size = cnt f 256 := by
  rw [bytesOf, strOfNums_size, nums, List.length_map, U_length f 256 (Nat.le_refl _)]
theorem inS_bytesOf (f : Nat → Bool) (i : Nat) (hi : i < 256) : inS (bytesOf f) (bytesOf f).size i = f i := by
  have e : (bytesOf f).data.toList.length = (bytesOf f).size := by simp
  unfold inS
  rw [List.take_of_length_le (by omega), bytesOf_list, List.any_map, Bool.eq_iff_iff, List.any_eq_true]
  constructor
  · rintro ⟨x, hx, he⟩
    rw [mem_U f 256 (Nat.le_refl _)] at hx
    simp at he
    rw [← he]; exact hx.1
  · intro h
    refine ⟨⟨i, hi⟩, (mem_U f 256 (Nat.le_refl _) _).2 ⟨h, hi⟩, ?_⟩
    simp

/-- **SetBack: true, whatever the set and the byte.** -/
theorem setBackW (s : Nat → Bool) (b : Nat) (hb : b < 256) (w : World) (hw : Fit w) :
    Calls Tryd.prog 5 #[sv s, .int .u8 b] w fun e w' => e = .returned (.bool true) ∧ Below w.heap.size w w' := by
  have hn := fun w => not_c s w
  have hnn : ∀ w, Calls Tryd.prog 19 #[sv (fun i => !s i)] w fun e w' => e = .returned (sv s) ∧ Below w.heap.size w w' := fun w => by
    have := not_c (fun i => !s i) w
    rwa [show (fun i => !(!s i)) = s from funext fun i => by simp] at this
  have hn0 : ∀ w, Calls Tryd.prog 19 #[.agg #[.int .u64 0, .int .u64 0, .int .u64 0, .int .u64 0]] w fun e w' => e = .returned (sv (fun _ => true)) ∧ Below w.heap.size w w' := fun w => by
    have := not_c (fun _ => false) w
    rwa [sv_none] at this
  have ht : ∀ w, Calls Tryd.prog 12 #[.string (bytesOf s)] w fun e w' => e = .returned (sv s) ∧ Below w.heap.size w w' := fun w => by
    have := of_c (bytesOf s) (by rw [bytesOf_size]; have := cnt_le s 256; omega) w
    rwa [sv_congr (inS_bytesOf s)] at this
  have ho : ∀ (B cap : Nat) w, w.heap[B]? = some (.cells #[.int .u64 (wd s 0), .int .u64 (wd s 1), .int .u64 (wd s 2), .int .u64 (wd s 3), .int .u64 (wd (fun i => !s i) 0), .int .u64 (wd (fun i => !s i) 1), .int .u64 (wd (fun i => !s i) 2), .int .u64 (wd (fun i => !s i) 3)] 24 (0, 0)) → Calls Tryd.prog 17 #[.slice (some ⟨B, 0, none⟩) 2 cap] w fun e w' => e = .returned (sv (fun _ => true)) ∧ Below w.heap.size w w' := fun B cap w h => by
    have := or2_c s (fun i => !s i) B cap w 24 h
    rwa [show (fun i => s i || !s i) = (fun _ => true) from funext fun i => by cases s i <;> rfl] at this
  have hc := cnt_not s 256
  by_cases hv : s b = true
  · exact back_in b hb s (fun i => !s i) (fun _ => true) (bytesOf s) _ _ (by omega) hn hnn hn0 (fun w hw => bytes_fit s w hw) ht ho
      (fun w => by have := has_c s b hb w; rwa [hv] at this) (fun w => by have := has_c (fun i => !s i) b hb w; rwa [show (!s b) = false by simp [hv]] at this)
      (fun w => size_c s w) (fun w => size_c (fun i => !s i) w) w hw
  · have hv' : s b = false := by simpa using hv
    exact back_out b hb s (fun i => !s i) (fun _ => true) (bytesOf s) _ _ (by omega) hn hnn hn0 (fun w hw => bytes_fit s w hw) ht ho
      (fun w => by have := has_c s b hb w; rwa [hv'] at this) (fun w => by have := has_c (fun i => !s i) b hb w; rwa [show (!s b) = true by simp [hv']] at this)
      (fun w => size_c s w) (fun w => size_c (fun i => !s i) w) w hw

end Go.Proofs.YtdcekdjpbkchmaaDoor
