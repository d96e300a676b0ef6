/- The reference's Told, and told. -/
import Derived.Test.YtblogejljilcdaaDoorSetU
namespace Go.Proofs.YtblogejljilcdaaDoor
open Go.RowKit
set_option linter.unusedVariables false
set_option linter.unusedSimpArgs false

/-- The zero array is stored into a fresh variable, behind another. -/
theorem store_fresh2 (w : World) (o : Obj) : (storeCells ⟨w.heap.size + 1 + 1, 0, none⟩ (barr fun _ => false).toList).run Tryd.prog (((w.alloc o).alloc (.cells (barr fun _ => false) 34)).alloc (.cells (barr fun _ => false) 34)) = .ok () (((w.alloc o).alloc (.cells (barr fun _ => false) 34)).alloc (.cells (barr fun _ => false) 34)) := by
  have := store_fresh (w.alloc o)
  rwa [World.size_alloc] at this

theorem wk_half (f : Nat → Bool) (i : Nat) : wk f (i / 64) i / 2 = wk f (i / 64) (i + 1) := by
  have := wk_step f i
  cases hv : f i <;> rw [hv] at this <;> simp at this <;> omega
theorem wk_odd (f : Nat → Bool) (i : Nat) : wk f (i / 64) i % 2 = (f i).toNat := by
  have := wk_step f i
  cases hv : f i <;> rw [hv] at this <;> simp at this <;> simp <;> omega

set_option maxRecDepth 100000 in
set_option maxHeartbeats 8000000 in
theorem told0_c (f : Nat → Bool) (w : World) :
    Calls Tryd.prog 41 #[sv f] w fun e w' => e = .returned (bv f) ∧ Below w.heap.size w w' := by
  obtain ⟨hz, hsz⟩ := zero_of_info (P := Tryd.prog) info27
  have hst0 := store_fresh2 w (.cells #[.int .u64 (wd f 0), .int .u64 (wd f 1), .int .u64 (wd f 2), .int .u64 (wd f 3)] 23)
  unfold bv sv
  go_enter Tryd.func41, Tryd.ntmps41
  go_wp2
  clear hst0
  go_loopw [4] (fun i wr => ∃ k : Nat, k ≤ 256 ∧ i = .int .i64 k ∧ Four wr w.heap.size 23 (.int .u64 (wk f 0 k)) (.int .u64 (wk f 1 k)) (.int .u64 (wk f 2 k)) (.int .u64 (wk f 3 k)) ∧ Row wr (w.heap.size + 1) (fun _ => false) ∧ Row wr (w.heap.size + 1 + 1) (fun j => decide (j < k) && f j) ∧ Below w.heap.size w wr) (fun i _ => 256 - (intOf i).toNat)
  case atStart =>
    refine ⟨0, by omega, rfl, ?_, ?_, ?_, (((Below.refl _ w).alloc (Nat.le_refl _) _).alloc (by simp) _).alloc (by simp; omega) _⟩
    · rw [wk_zero, wk_zero, wk_zero, wk_zero]
      exact ((Four.new w _ _ _ _ _).alloc _).alloc _
    · have := Row.new (w.alloc (.cells #[.int .u64 (wd f 0), .int .u64 (wd f 1), .int .u64 (wd f 2), .int .u64 (wd f 3)] 23)) (fun _ => false)
      rw [World.size_alloc] at this
      exact this.alloc _
    · have := Row.new ((w.alloc (.cells #[.int .u64 (wd f 0), .int .u64 (wd f 1), .int .u64 (wd f 2), .int .u64 (wd f 3)] 23)).alloc (.cells (barr fun _ => false) 34)) (fun _ => false)
      rw [World.size_alloc, World.size_alloc] at this
      exact this.congr fun i _ => by simp
  case round =>
    obtain ⟨i, hk, rfl, h2, h0, h1, hB⟩ := hrel
    by_cases hlt : i < 256
    · have hc := h1.cell i hlt
      have hcf := h1.fz i
      have ho := wk_odd f i
      have hh := wk_half f i
      have hfin : ∀ j, j < 256 → (if j = i then f i else (decide (j < i) && f j)) = (decide (j < i + 1) && f j) := fun j _ => by
        by_cases e : j = i
        · subst e; simp
        · have e2 : decide (j < i + 1) = decide (j < i) := decide_eq_decide.2 (by omega)
          simp [e, e2]
      have HF := Lib.hid hfin
      clear hfin
      rcases (by omega : i / 64 = 0 ∨ i / 64 = 1 ∨ i / 64 = 2 ∨ i / 64 = 3) with hd | hd | hd | hd
      · rw [hd] at ho hh
        have hb := wk_lt f 0 i
        have hi64 : (i : Int) / 64 = 0 := by omega
        have e := h2.c0
        have ef := h2.fz 0
        have hv : ((wk f 0 i : Int) % 2 == 1) = f i := by
          cases hfi : f i <;> rw [hfi] at ho <;> simp at ho <;> simp <;> omega
        have hq : (wk f 0 i : Int) / 2 = (wk f 0 (i + 1) : Int) := by omega
        have hs1 := Lib.hid (wk_same f 1 i (by omega))
        have hs2 := Lib.hid (wk_same f 2 i (by omega))
        have hs3 := Lib.hid (wk_same f 3 i (by omega))
        clear ho hh hd
        go_wp2
        go_roundw
        case rel =>
          have q := (h2.other (p := ⟨w.heap.size + 1 + 1, i, none⟩) (by show w.heap.size ≠ w.heap.size + 1 + 1; omega) (.bool (f i))).s0 (.int .u64 (wk f 0 (i + 1)))
          rw [← hs1.out, ← hs2.out, ← hs3.out] at q
          exact ⟨i + 1, by omega, by simp, q, (h0.other (p := ⟨w.heap.size + 1 + 1, i, none⟩) (by show w.heap.size + 1 ≠ w.heap.size + 1 + 1; omega) _).other (p := ⟨w.heap.size, 0, none⟩) (by show w.heap.size + 1 ≠ w.heap.size; omega) _,
            ((h1.set i (f i)).congr HF.out).other (p := ⟨w.heap.size, 0, none⟩) (by show w.heap.size + 1 + 1 ≠ w.heap.size; omega) _, (hB.setCell (p := ⟨w.heap.size + 1 + 1, i, none⟩) (by show w.heap.size ≤ w.heap.size + 1 + 1; omega) _).setCell (p := ⟨w.heap.size, 0, none⟩) (Nat.le_refl _) _⟩
        case measure => (simp [intOf]) <;> omega
      · rw [hd] at ho hh
        have hb := wk_lt f 1 i
        have hi64 : (i : Int) / 64 = 1 := by omega
        have e := h2.c1
        have ef := h2.fz 1
        have hv : ((wk f 1 i : Int) % 2 == 1) = f i := by
          cases hfi : f i <;> rw [hfi] at ho <;> simp at ho <;> simp <;> omega
        have hq : (wk f 1 i : Int) / 2 = (wk f 1 (i + 1) : Int) := by omega
        have hs0 := Lib.hid (wk_same f 0 i (by omega))
        have hs2 := Lib.hid (wk_same f 2 i (by omega))
        have hs3 := Lib.hid (wk_same f 3 i (by omega))
        clear ho hh hd
        go_wp2
        go_roundw
        case rel =>
          have q := (h2.other (p := ⟨w.heap.size + 1 + 1, i, none⟩) (by show w.heap.size ≠ w.heap.size + 1 + 1; omega) (.bool (f i))).s1 (.int .u64 (wk f 1 (i + 1)))
          rw [← hs0.out, ← hs2.out, ← hs3.out] at q
          exact ⟨i + 1, by omega, by simp, q, (h0.other (p := ⟨w.heap.size + 1 + 1, i, none⟩) (by show w.heap.size + 1 ≠ w.heap.size + 1 + 1; omega) _).other (p := ⟨w.heap.size, 1, none⟩) (by show w.heap.size + 1 ≠ w.heap.size; omega) _,
            ((h1.set i (f i)).congr HF.out).other (p := ⟨w.heap.size, 1, none⟩) (by show w.heap.size + 1 + 1 ≠ w.heap.size; omega) _, (hB.setCell (p := ⟨w.heap.size + 1 + 1, i, none⟩) (by show w.heap.size ≤ w.heap.size + 1 + 1; omega) _).setCell (p := ⟨w.heap.size, 1, none⟩) (Nat.le_refl _) _⟩
        case measure => (simp [intOf]) <;> omega
      · rw [hd] at ho hh
        have hb := wk_lt f 2 i
        have hi64 : (i : Int) / 64 = 2 := by omega
        have e := h2.c2
        have ef := h2.fz 2
        have hv : ((wk f 2 i : Int) % 2 == 1) = f i := by
          cases hfi : f i <;> rw [hfi] at ho <;> simp at ho <;> simp <;> omega
        have hq : (wk f 2 i : Int) / 2 = (wk f 2 (i + 1) : Int) := by omega
        have hs0 := Lib.hid (wk_same f 0 i (by omega))
        have hs1 := Lib.hid (wk_same f 1 i (by omega))
        have hs3 := Lib.hid (wk_same f 3 i (by omega))
        clear ho hh hd
        go_wp2
        go_roundw
        case rel =>
          have q := (h2.other (p := ⟨w.heap.size + 1 + 1, i, none⟩) (by show w.heap.size ≠ w.heap.size + 1 + 1; omega) (.bool (f i))).s2 (.int .u64 (wk f 2 (i + 1)))
          rw [← hs0.out, ← hs1.out, ← hs3.out] at q
          exact ⟨i + 1, by omega, by simp, q, (h0.other (p := ⟨w.heap.size + 1 + 1, i, none⟩) (by show w.heap.size + 1 ≠ w.heap.size + 1 + 1; omega) _).other (p := ⟨w.heap.size, 2, none⟩) (by show w.heap.size + 1 ≠ w.heap.size; omega) _,
            ((h1.set i (f i)).congr HF.out).other (p := ⟨w.heap.size, 2, none⟩) (by show w.heap.size + 1 + 1 ≠ w.heap.size; omega) _, (hB.setCell (p := ⟨w.heap.size + 1 + 1, i, none⟩) (by show w.heap.size ≤ w.heap.size + 1 + 1; omega) _).setCell (p := ⟨w.heap.size, 2, none⟩) (Nat.le_refl _) _⟩
        case measure => (simp [intOf]) <;> omega
      · rw [hd] at ho hh
        have hb := wk_lt f 3 i
        have hi64 : (i : Int) / 64 = 3 := by omega
        have e := h2.c3
        have ef := h2.fz 3
        have hv : ((wk f 3 i : Int) % 2 == 1) = f i := by
          cases hfi : f i <;> rw [hfi] at ho <;> simp at ho <;> simp <;> omega
        have hq : (wk f 3 i : Int) / 2 = (wk f 3 (i + 1) : Int) := by omega
        have hs0 := Lib.hid (wk_same f 0 i (by omega))
        have hs1 := Lib.hid (wk_same f 1 i (by omega))
        have hs2 := Lib.hid (wk_same f 2 i (by omega))
        clear ho hh hd
        go_wp2
        go_roundw
        case rel =>
          have q := (h2.other (p := ⟨w.heap.size + 1 + 1, i, none⟩) (by show w.heap.size ≠ w.heap.size + 1 + 1; omega) (.bool (f i))).s3 (.int .u64 (wk f 3 (i + 1)))
          rw [← hs0.out, ← hs1.out, ← hs2.out] at q
          exact ⟨i + 1, by omega, by simp, q, (h0.other (p := ⟨w.heap.size + 1 + 1, i, none⟩) (by show w.heap.size + 1 ≠ w.heap.size + 1 + 1; omega) _).other (p := ⟨w.heap.size, 3, none⟩) (by show w.heap.size + 1 ≠ w.heap.size; omega) _,
            ((h1.set i (f i)).congr HF.out).other (p := ⟨w.heap.size, 3, none⟩) (by show w.heap.size + 1 + 1 ≠ w.heap.size; omega) _, (hB.setCell (p := ⟨w.heap.size + 1 + 1, i, none⟩) (by show w.heap.size ≤ w.heap.size + 1 + 1; omega) _).setCell (p := ⟨w.heap.size, 3, none⟩) (Nat.le_refl _) _⟩
        case measure => (simp [intOf]) <;> omega
    · obtain rfl : i = 256 := by omega
      have h1 := h1.congr (g := f) (fun i hi => by simp [hi])
      have hst := h0.storeCells
      go_wp2
      refine wp_load_row h1 rfl rfl ?_
      go_wp2
      have q := h0.put f
      have ql := q.load
      refine bodyPost_ret (v := .agg (barr f)) ?_ rfl ⟨rfl, Below.setRow hB (by omega) _⟩
      simp [results, Tryd.results41, asAddr, Result.andThen, ql]

set_option maxRecDepth 100000 in
set_option maxHeartbeats 4000000 in
theorem told_c (f : Nat → Bool) (w : World) :
    Calls Tryd.prog 18 #[sv f] w fun e w' => e = .returned (bv f) ∧ Below w.heap.size w w' := by
  obtain ⟨hz, hsz⟩ := zero_of_info (P := Tryd.prog) info27
  have HT := Lib.hid (fun w => told0_c f w)
  unfold bv sv at HT ⊢
  go_enter Tryd.func18, Tryd.ntmps18
  go_wp2_with fail
  refine (HT.out _).mono ?_
  rintro e w1 ⟨rfl, hB1⟩
  have b0 : Below w.heap.size w ((w.alloc (.cells #[.int .u64 (wd f 0), .int .u64 (wd f 1), .int .u64 (wd f 2), .int .u64 (wd f 3)] 24)).alloc (.cells (barr fun _ => false) 34)) := ((Below.refl _ w).alloc (Nat.le_refl _) _).alloc (by simp) _
  have b1 := b0.trans (hB1.mono b0.size)
  have r0 := Row.new (w.alloc (.cells #[.int .u64 (wd f 0), .int .u64 (wd f 1), .int .u64 (wd f 2), .int .u64 (wd f 3)] 24)) (fun _ => false)
  have r1 := r0.below hB1 r0.lt
  rw [World.size_alloc] at r1
  have hst := r1.storeCells
  clear r0 b0 hB1
  go_wp2
  have q := r1.put f
  have ql := q.load
  refine bodyPost_ret (v := .agg (barr f)) ?_ rfl ⟨rfl, Below.setRow b1 (by omega) _⟩
  simp [results, Tryd.results18, asAddr, Result.andThen, ql]

end Go.Proofs.YtblogejljilcdaaDoor
