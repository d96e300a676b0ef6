/- SetTells: the reference's Size; Or of no set; the law. -/
import Derived.Test.YtblogejljilcdaaDoorSetT
import Derived.Test.YtblogejljilcdaaDoorSetH
namespace Go.Proofs.YtblogejljilcdaaDoor
open Go.RowKit
set_option linter.unusedVariables false
set_option linter.unusedSimpArgs false

set_option maxRecDepth 100000 in
set_option maxHeartbeats 4000000 in
theorem rsize_c (f : Nat → Bool) (w : World) :
    Calls Tryd.prog 27 #[bv f] w fun e w' => e = .returned (.int .i64 ((cnt f 256 : Nat) : Int)) ∧ Below w.heap.size w w' := by
  have HB := Lib.hid (fun w => rbytes_c f w)
  have hs := bytesOf_size f
  obtain ⟨hz, hsz⟩ := zero_of_info (P := Tryd.prog) info27
  unfold bv at HB ⊢
  go_enter Tryd.func27, Tryd.ntmps27
  go_wp2_with fail
  refine wp_load_row (Row.new w f) rfl rfl ?_
  go_wp2_with (go_at_call 29; refine (HB.out _).mono ?_; rintro e w1 ⟨rfl, hB1⟩)
  go_ret
  exact ⟨rfl, ((Below.refl _ w).alloc (Nat.le_refl _) _).trans (hB1.mono (by simp))⟩

set_option maxRecDepth 100000 in
set_option maxHeartbeats 4000000 in
theorem or0_c (w : World) :
    Calls Tryd.prog 11 #[.slice none 0 0] w fun e w' => e = .returned (.agg #[.int .u64 0, .int .u64 0, .int .u64 0, .int .u64 0]) ∧ Below w.heap.size w w' := by
  go_enter Tryd.func11, Tryd.ntmps11
  go_wp2
  go_loopw [9] (fun i wr => i = .int .i64 0 ∧ FourS wr w.heap.size (fun _ => false) ∧ FourS wr (w.heap.size + 1) (fun _ => false) ∧ Below w.heap.size w wr)
    (fun i _ => 0)
  case atStart =>
    refine ⟨rfl, ?_, ?_, ?_⟩
    · exact FourS.zero ((Four.new w _ _ _ _ _).alloc _) (fun _ _ => rfl)
    · refine FourS.zero ?_ (fun i _ => rfl)
      have := Four.new (w.alloc (.cells #[.int .u64 0, .int .u64 0, .int .u64 0, .int .u64 0] 24)) 24 (.int .u64 0) (.int .u64 0) (.int .u64 0) (.int .u64 0)
      rwa [World.size_alloc] at this
    · exact ((Below.refl _ w).alloc (Nat.le_refl _) _).alloc (by simp) _
  case round =>
    obtain ⟨rfl, h0, h1, hB⟩ := hrel
    have h0c0 := h0.c0; have h0c1 := h0.c1; have h0c2 := h0.c2; have h0c3 := h0.c3
    have h0f0 := h0.fz 0; have h0f1 := h0.fz 1; have h0f2 := h0.fz 2; have h0f3 := h0.fz 3
    have h1c0 := h1.c0; have h1c1 := h1.c1; have h1c2 := h1.c2; have h1c3 := h1.c3
    go_wp2
    have q := FourS.set h0 (fun _ => false)
    have qc0 := q.c0; have qc1 := q.c1; have qc2 := q.c2; have qc3 := q.c3
    refine bodyPost_ret (v := sv (fun _ => false)) (by simp [results, Tryd.results11, go_sem, qc0, qc1, qc2, qc3, sv]) rfl ?_
    exact ⟨by rw [sv_none], Below.set4 hB (by omega) _ _ _ _⟩

/-- **SetTells: true, whatever the sets, the text and the bytes.** -/
theorem setTellsW (s t : Nat → Bool) (x : ByteArray) (a b : Nat) (hx : x.size ≤ maxLen) (ha : a < 256) (hb : b < 256) (w : World) (hw : Fit w) :
    Calls Tryd.prog 5 #[sv s, sv t, .string x, .int .u8 a, .int .u8 b] w fun e w' => e = .returned (.bool true) ∧ Below w.heap.size w w' := by
  by_cases hl : 300 < x.size
  · have HX := Lib.hid (fun w hw => shown_c w hw)
    unfold sv
    go_enter Tryd.func5, Tryd.ntmps5
    go_wp2_with (go_at_call 15; refine (HX.out _ (by first | exact hw | exact (hw.alloc _).alloc _)).mono ?_; rintro e w1 ⟨rfl, hB1⟩)
    go_ret
    exact ⟨rfl, (((Below.refl _ w).alloc (Nat.le_refl _) _).alloc (by simp) _).trans (hB1.mono (by simp; omega))⟩
  · have hs : x.size < 9223372036854775807 := by omega
    have k3 := fun w => rof_c x hs w
    exact tells_go x (bytesOf s) hl s t (inS x x.size) (rg a b) (fun i => s i || t i) (fun i => !s i) (foldF s) a b ha (cnt s 256 : Nat)
      (fun w => of_c x hs w) (fun w => told_c _ w) k3 (fun w => has_c s a ha w) (fun w => told_c s w) (fun w => told_c t w) (fun w => range_c a b ha hb w) (fun w => told_c (rg a b) w)
      (fun w => rrange_c a b ha hb w) (fun w => told_c _ w) (fun w => ror_c s t w) (fun w => not_c s w) (fun w => told_c _ w) (fun w => rnot_c s w) (fun w hw => fold_fit s w hw) (fun w => told_c _ w) (fun w => rfold_c s w)
      (fun w => size_c s w) (fun w => rsize_c s w) (fun w hw => bytes_fit s w hw) (fun w => rbytes_c s w) (fun w => or0_c w) (fun B cap w h => or2_c s t B cap w _ h) w hw

end Go.Proofs.YtblogejljilcdaaDoor
