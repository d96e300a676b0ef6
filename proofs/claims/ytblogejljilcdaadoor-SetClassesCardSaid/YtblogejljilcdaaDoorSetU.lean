/- The reference's Of and Words. -/
import Derived.Test.YtblogejljilcdaaDoorSetM
import Derived.Test.YtblogejljilcdaaDoorSetB
namespace Go.Proofs.YtblogejljilcdaaDoor
open Go.RowKit
set_option linter.unusedVariables false
set_option linter.unusedSimpArgs false

/-- The zero array is stored into a fresh variable. -/
theorem store_fresh (w : World) : (storeCells ⟨w.heap.size + 1, 0, none⟩ (barr fun _ => false).toList).run Tryd.prog ((w.alloc (.cells (barr fun _ => false) 34)).alloc (.cells (barr fun _ => false) 34)) = .ok () ((w.alloc (.cells (barr fun _ => false) 34)).alloc (.cells (barr fun _ => false) 34)) := by
  have := (Row.new (w.alloc (.cells (barr fun _ => false) 34)) (fun _ => false)).storeCells (fun _ => false)
  rw [World.setRow_alloc_new, World.size_alloc] at this
  exact this

set_option maxRecDepth 100000 in
set_option maxHeartbeats 4000000 in
theorem rof_c (s : ByteArray) (hs : s.size < 9223372036854775807) (w : World) :
    Calls Tryd.prog 20 #[.string s] w fun e w' => e = .returned (bv (inS s s.size)) ∧ Below w.heap.size w w' := by
  obtain ⟨hz, hsz⟩ := zero_of_info (P := Tryd.prog) info27
  have hst0 := store_fresh w
  unfold bv
  go_enter Tryd.func20, Tryd.ntmps20
  go_wp2
  clear hst0
  go_loopw [4] (fun i wr => ∃ k : Nat, k ≤ s.size ∧ i = .int .i64 k ∧ Row wr w.heap.size (fun _ => false) ∧ Row wr (w.heap.size + 1) (inS s k) ∧ Below w.heap.size w wr) (fun i _ => s.size - (intOf i).toNat)
  case atStart =>
    refine ⟨0, by omega, rfl, (Row.new w _).alloc _, ?_, ((Below.refl _ w).alloc (Nat.le_refl _) _).alloc (by simp) _⟩
    have := Row.new (w.alloc (.cells (barr fun _ => false) 34)) (fun _ => false)
    rw [World.size_alloc] at this
    exact this.congr fun i _ => by simp [inS]
  case round =>
    obtain ⟨k, hk, rfl, h0, h1, hB⟩ := hrel
    by_cases hlt : k < s.size
    · have hle := s[k].toNat_lt
      have hc := h1.cell s[k].toNat hle
      have hf := h1.fz s[k].toNat
      go_wp2
      go_roundw
      case rel =>
        refine ⟨k + 1, by omega, by simp, h0.other (by simp) _, (h1.set _ _).congr fun i _ => ?_, hB.setCell (p := ⟨w.heap.size + 1, s[k].toNat, none⟩) (by simp) _⟩
        rw [inS_succ s k i hlt]
        by_cases e : i = s[k].toNat
        · simp [e]
        · have e2 : (i == s[k].toNat) = false := by simp [e]
          rw [if_neg e, e2, Bool.or_false]
      case measure => simp [intOf]; omega
    · obtain rfl : k = s.size := by omega
      have hst := h0.storeCells
      go_wp2
      refine wp_load_row h1 rfl rfl ?_
      go_wp2
      have q := h0.put (inS s s.size)
      have ql := q.load
      refine bodyPost_ret (v := .agg (barr (inS s s.size))) ?_ rfl ⟨rfl, Below.setRow hB (by omega) _⟩
      simp [results, Tryd.results20, asAddr, Result.andThen, ql]

/-- Word m, when the bits from k on have come. -/
def wk (f : Nat → Bool) (m k : Nat) : Nat := wd f m / 2 ^ (min 64 (k - 64 * m))
theorem wk_zero (f : Nat → Bool) (m : Nat) : wk f m 0 = wd f m := by simp [wk]
theorem wk_all (f : Nat → Bool) (m : Nat) (hm : m < 4) : wk f m 256 = 0 := by
  unfold wk
  rw [show min 64 (256 - 64 * m) = 64 by omega]
  exact Nat.div_eq_of_lt (wd_lt f m)
theorem wk_same (f : Nat → Bool) (m i : Nat) (h : m ≠ i / 64) : wk f m (i + 1) = wk f m i := by
  unfold wk
  congr 2
  rcases Nat.lt_or_gt_of_ne h with h1 | h1
  · have : 64 * m + 64 ≤ i := by omega
    omega
  · have : i + 1 ≤ 64 * m := by omega
    omega
theorem wk_step (f : Nat → Bool) (i : Nat) : wk f (i / 64) i = 2 * wk f (i / 64) (i + 1) + (f i).toNat := by
  unfold wk
  have e1 : min 64 (i - 64 * (i / 64)) = i % 64 := by omega
  have e2 : min 64 (i + 1 - 64 * (i / 64)) = i % 64 + 1 := by omega
  have hb := wd_has f (i / 64) (i % 64) (by omega)
  rw [show 64 * (i / 64) + i % 64 = i by omega] at hb
  rw [e1, e2, ← hb, Nat.pow_succ, ← Nat.div_div_eq_div_mul]
  omega
theorem wk_lt (f : Nat → Bool) (m k : Nat) : wk f m k < 18446744073709551616 := Nat.lt_of_le_of_lt (Nat.div_le_self _ _) (wd_lt f m)

set_option maxRecDepth 100000 in
set_option maxHeartbeats 8000000 in
theorem words_c (f : Nat → Bool) (w : World) :
    Calls Tryd.prog 72 #[bv f] w fun e w' => e = .returned (sv f) ∧ Below w.heap.size w w' := by
  unfold bv sv
  go_enter Tryd.func72, Tryd.ntmps72
  go_wp2
  go_loopw [4] (fun i wr => ∃ k : Nat, k ≤ 256 ∧ i = .int .i64 ((k : Int) - 1) ∧ Row wr w.heap.size f ∧ Four wr (w.heap.size + 1) 23 (.int .u64 0) (.int .u64 0) (.int .u64 0) (.int .u64 0) ∧ Four wr (w.heap.size + 1 + 1) 23 (.int .u64 (wk f 0 k)) (.int .u64 (wk f 1 k)) (.int .u64 (wk f 2 k)) (.int .u64 (wk f 3 k)) ∧ Below w.heap.size w wr) (fun i _ => (intOf i + 1).toNat)
  case atStart =>
    refine ⟨256, by omega, rfl, ((Row.new w f).alloc _).alloc _, ?_, ?_, (((Below.refl _ w).alloc (Nat.le_refl _) _).alloc (by simp) _).alloc (by simp; omega) _⟩
    · have := Four.new (w.alloc (.cells (barr f) 34)) 23 (.int .u64 0) (.int .u64 0) (.int .u64 0) (.int .u64 0)
      rw [World.size_alloc] at this
      exact this.alloc _
    · rw [wk_all f 0 (by omega), wk_all f 1 (by omega), wk_all f 2 (by omega), wk_all f 3 (by omega)]
      have := Four.new ((w.alloc (.cells (barr f) 34)).alloc (.cells #[.int .u64 0, .int .u64 0, .int .u64 0, .int .u64 0] 23)) 23 (.int .u64 0) (.int .u64 0) (.int .u64 0) (.int .u64 0)
      rw [World.size_alloc, World.size_alloc] at this
      exact this
  case round =>
    obtain ⟨k, hk, rfl, h0, h1, h2, hB⟩ := hrel
    cases k with
    | zero =>
      have e0 := h2.c0; have e1 := h2.c1; have e2 := h2.c2; have e3 := h2.c3
      rw [wk_zero] at e0 e1 e2 e3
      have g0 := h1.c0; have g1 := h1.c1; have g2 := h1.c2; have g3 := h1.c3
      have gf0 := h1.fz 0; have gf1 := h1.fz 1; have gf2 := h1.fz 2; have gf3 := h1.fz 3
      go_wp2
      have q := h1.set (.int .u64 (wd f 0)) (.int .u64 (wd f 1)) (.int .u64 (wd f 2)) (.int .u64 (wd f 3))
      have qc0 := q.c0; have qc1 := q.c1; have qc2 := q.c2; have qc3 := q.c3
      refine bodyPost_ret (v := .agg #[.int .u64 (wd f 0), .int .u64 (wd f 1), .int .u64 (wd f 2), .int .u64 (wd f 3)]) (by simp [results, Tryd.results72, go_sem, qc0, qc1, qc2, qc3]) rfl ⟨rfl, Below.set4 hB (by omega) _ _ _ _⟩
    | succ i =>
      have hi : i < 256 := by omega
      have hki : ((i + 1 : Nat) : Int) - 1 = (i : Int) := by omega
      have hc := h0.cell i hi
      have hst := wk_step f i
      simp only [hki]
      rcases (by omega : i / 64 = 0 ∨ i / 64 = 1 ∨ i / 64 = 2 ∨ i / 64 = 3) with hd | hd | hd | hd
      · rw [hd] at hst
        have hb := wk_lt f 0 i
        have hi64 : (i : Int) / 64 = 0 := by omega
        have e := h2.c0
        have ef := h2.fz 0
        obtain ⟨y, hy⟩ : ∃ y, y = 2 * wk f 0 (i + 1) := ⟨_, rfl⟩
        rw [← hy] at hst
        have hm : IntKind.u64.wrap ((wk f 0 (i + 1) : Int) * 2) = (y : Int) := u64_wrap _ (by omega) _ (by omega)
        have hs1 := Lib.hid (wk_same f 1 i (by omega))
        have hs2 := Lib.hid (wk_same f 2 i (by omega))
        have hs3 := Lib.hid (wk_same f 3 i (by omega))
        have HS := Lib.hid hst
        cases hv : f i
        · rw [hv] at hc hst
          have hfin : y = wk f 0 i := by rw [hst]; simp
          have HF := Lib.hid hfin
          clear hst hfin hd hy  hv
          go_wp2
          go_roundw
          case rel =>
            have q := h2.s0 (.int .u64 (y : Int))
            rw [HF.out, hs1.out, hs2.out, hs3.out] at q
            exact ⟨i, by omega, by simp, h0.other (p := ⟨w.heap.size + 1 + 1, 0, none⟩) (by show w.heap.size ≠ w.heap.size + 1 + 1; omega) _, h1.other (p := ⟨w.heap.size + 1 + 1, 0, none⟩) (by show w.heap.size + 1 ≠ w.heap.size + 1 + 1; omega) _, by (first | exact q | (rw [HF.out]; exact q) | (have q' := q; rw [← HF.out] at q'; exact q')), hB.setCell (p := ⟨w.heap.size + 1 + 1, 0, none⟩) (by show w.heap.size ≤ w.heap.size + 1 + 1; omega) _⟩
          case measure => (simp [intOf]) <;> omega
        · rw [hv] at hc hst
          have hfin : y + 1 = wk f 0 i := by rw [hst]; simp
          have ha : IntKind.u64.wrap ((y : Int) + 1) = (wk f 0 i : Int) := u64_wrap _ hb _ (by omega)
          clear hst hfin hd hy  hv
          go_wp2
          go_roundw
          case rel =>
            have q := (h2.s0 (.int .u64 (y : Int))).s0 (.int .u64 (wk f 0 i))
            rw [hs1.out, hs2.out, hs3.out] at q
            exact ⟨i, by omega, by simp, (h0.other (p := ⟨w.heap.size + 1 + 1, 0, none⟩) (by show w.heap.size ≠ w.heap.size + 1 + 1; omega) _).other (p := ⟨w.heap.size + 1 + 1, 0, none⟩) (by show w.heap.size ≠ w.heap.size + 1 + 1; omega) _, (h1.other (p := ⟨w.heap.size + 1 + 1, 0, none⟩) (by show w.heap.size + 1 ≠ w.heap.size + 1 + 1; omega) _).other (p := ⟨w.heap.size + 1 + 1, 0, none⟩) (by show w.heap.size + 1 ≠ w.heap.size + 1 + 1; omega) _, q, (hB.setCell (p := ⟨w.heap.size + 1 + 1, 0, none⟩) (by show w.heap.size ≤ w.heap.size + 1 + 1; omega) _).setCell (p := ⟨w.heap.size + 1 + 1, 0, none⟩) (by show w.heap.size ≤ w.heap.size + 1 + 1; omega) _⟩
          case measure => (simp [intOf]) <;> omega
      · rw [hd] at hst
        have hb := wk_lt f 1 i
        have hi64 : (i : Int) / 64 = 1 := by omega
        have e := h2.c1
        have ef := h2.fz 1
        obtain ⟨y, hy⟩ : ∃ y, y = 2 * wk f 1 (i + 1) := ⟨_, rfl⟩
        rw [← hy] at hst
        have hm : IntKind.u64.wrap ((wk f 1 (i + 1) : Int) * 2) = (y : Int) := u64_wrap _ (by omega) _ (by omega)
        have hs0 := Lib.hid (wk_same f 0 i (by omega))
        have hs2 := Lib.hid (wk_same f 2 i (by omega))
        have hs3 := Lib.hid (wk_same f 3 i (by omega))
        have HS := Lib.hid hst
        cases hv : f i
        · rw [hv] at hc hst
          have hfin : y = wk f 1 i := by rw [hst]; simp
          have HF := Lib.hid hfin
          clear hst hfin hd hy  hv
          go_wp2
          go_roundw
          case rel =>
            have q := h2.s1 (.int .u64 (y : Int))
            rw [HF.out, hs0.out, hs2.out, hs3.out] at q
            exact ⟨i, by omega, by simp, h0.other (p := ⟨w.heap.size + 1 + 1, 1, none⟩) (by show w.heap.size ≠ w.heap.size + 1 + 1; omega) _, h1.other (p := ⟨w.heap.size + 1 + 1, 1, none⟩) (by show w.heap.size + 1 ≠ w.heap.size + 1 + 1; omega) _, by (first | exact q | (rw [HF.out]; exact q) | (have q' := q; rw [← HF.out] at q'; exact q')), hB.setCell (p := ⟨w.heap.size + 1 + 1, 1, none⟩) (by show w.heap.size ≤ w.heap.size + 1 + 1; omega) _⟩
          case measure => (simp [intOf]) <;> omega
        · rw [hv] at hc hst
          have hfin : y + 1 = wk f 1 i := by rw [hst]; simp
          have ha : IntKind.u64.wrap ((y : Int) + 1) = (wk f 1 i : Int) := u64_wrap _ hb _ (by omega)
          clear hst hfin hd hy  hv
          go_wp2
          go_roundw
          case rel =>
            have q := (h2.s1 (.int .u64 (y : Int))).s1 (.int .u64 (wk f 1 i))
            rw [hs0.out, hs2.out, hs3.out] at q
            exact ⟨i, by omega, by simp, (h0.other (p := ⟨w.heap.size + 1 + 1, 1, none⟩) (by show w.heap.size ≠ w.heap.size + 1 + 1; omega) _).other (p := ⟨w.heap.size + 1 + 1, 1, none⟩) (by show w.heap.size ≠ w.heap.size + 1 + 1; omega) _, (h1.other (p := ⟨w.heap.size + 1 + 1, 1, none⟩) (by show w.heap.size + 1 ≠ w.heap.size + 1 + 1; omega) _).other (p := ⟨w.heap.size + 1 + 1, 1, none⟩) (by show w.heap.size + 1 ≠ w.heap.size + 1 + 1; omega) _, q, (hB.setCell (p := ⟨w.heap.size + 1 + 1, 1, none⟩) (by show w.heap.size ≤ w.heap.size + 1 + 1; omega) _).setCell (p := ⟨w.heap.size + 1 + 1, 1, none⟩) (by show w.heap.size ≤ w.heap.size + 1 + 1; omega) _⟩
          case measure => (simp [intOf]) <;> omega
      · rw [hd] at hst
        have hb := wk_lt f 2 i
        have hi64 : (i : Int) / 64 = 2 := by omega
        have e := h2.c2
        have ef := h2.fz 2
        obtain ⟨y, hy⟩ : ∃ y, y = 2 * wk f 2 (i + 1) := ⟨_, rfl⟩
        rw [← hy] at hst
        have hm : IntKind.u64.wrap ((wk f 2 (i + 1) : Int) * 2) = (y : Int) := u64_wrap _ (by omega) _ (by omega)
        have hs0 := Lib.hid (wk_same f 0 i (by omega))
        have hs1 := Lib.hid (wk_same f 1 i (by omega))
        have hs3 := Lib.hid (wk_same f 3 i (by omega))
        have HS := Lib.hid hst
        cases hv : f i
        · rw [hv] at hc hst
          have hfin : y = wk f 2 i := by rw [hst]; simp
          have HF := Lib.hid hfin
          clear hst hfin hd hy  hv
          go_wp2
          go_roundw
          case rel =>
            have q := h2.s2 (.int .u64 (y : Int))
            rw [HF.out, hs0.out, hs1.out, hs3.out] at q
            exact ⟨i, by omega, by simp, h0.other (p := ⟨w.heap.size + 1 + 1, 2, none⟩) (by show w.heap.size ≠ w.heap.size + 1 + 1; omega) _, h1.other (p := ⟨w.heap.size + 1 + 1, 2, none⟩) (by show w.heap.size + 1 ≠ w.heap.size + 1 + 1; omega) _, by (first | exact q | (rw [HF.out]; exact q) | (have q' := q; rw [← HF.out] at q'; exact q')), hB.setCell (p := ⟨w.heap.size + 1 + 1, 2, none⟩) (by show w.heap.size ≤ w.heap.size + 1 + 1; omega) _⟩
          case measure => (simp [intOf]) <;> omega
        · rw [hv] at hc hst
          have hfin : y + 1 = wk f 2 i := by rw [hst]; simp
          have ha : IntKind.u64.wrap ((y : Int) + 1) = (wk f 2 i : Int) := u64_wrap _ hb _ (by omega)
          clear hst hfin hd hy  hv
          go_wp2
          go_roundw
          case rel =>
            have q := (h2.s2 (.int .u64 (y : Int))).s2 (.int .u64 (wk f 2 i))
            rw [hs0.out, hs1.out, hs3.out] at q
            exact ⟨i, by omega, by simp, (h0.other (p := ⟨w.heap.size + 1 + 1, 2, none⟩) (by show w.heap.size ≠ w.heap.size + 1 + 1; omega) _).other (p := ⟨w.heap.size + 1 + 1, 2, none⟩) (by show w.heap.size ≠ w.heap.size + 1 + 1; omega) _, (h1.other (p := ⟨w.heap.size + 1 + 1, 2, none⟩) (by show w.heap.size + 1 ≠ w.heap.size + 1 + 1; omega) _).other (p := ⟨w.heap.size + 1 + 1, 2, none⟩) (by show w.heap.size + 1 ≠ w.heap.size + 1 + 1; omega) _, q, (hB.setCell (p := ⟨w.heap.size + 1 + 1, 2, none⟩) (by show w.heap.size ≤ w.heap.size + 1 + 1; omega) _).setCell (p := ⟨w.heap.size + 1 + 1, 2, none⟩) (by show w.heap.size ≤ w.heap.size + 1 + 1; omega) _⟩
          case measure => (simp [intOf]) <;> omega
      · rw [hd] at hst
        have hb := wk_lt f 3 i
        have hi64 : (i : Int) / 64 = 3 := by omega
        have e := h2.c3
        have ef := h2.fz 3
        obtain ⟨y, hy⟩ : ∃ y, y = 2 * wk f 3 (i + 1) := ⟨_, rfl⟩
        rw [← hy] at hst
        have hm : IntKind.u64.wrap ((wk f 3 (i + 1) : Int) * 2) = (y : Int) := u64_wrap _ (by omega) _ (by omega)
        have hs0 := Lib.hid (wk_same f 0 i (by omega))
        have hs1 := Lib.hid (wk_same f 1 i (by omega))
        have hs2 := Lib.hid (wk_same f 2 i (by omega))
        have HS := Lib.hid hst
        cases hv : f i
        · rw [hv] at hc hst
          have hfin : y = wk f 3 i := by rw [hst]; simp
          have HF := Lib.hid hfin
          clear hst hfin hd hy  hv
          go_wp2
          go_roundw
          case rel =>
            have q := h2.s3 (.int .u64 (y : Int))
            rw [HF.out, hs0.out, hs1.out, hs2.out] at q
            exact ⟨i, by omega, by simp, h0.other (p := ⟨w.heap.size + 1 + 1, 3, none⟩) (by show w.heap.size ≠ w.heap.size + 1 + 1; omega) _, h1.other (p := ⟨w.heap.size + 1 + 1, 3, none⟩) (by show w.heap.size + 1 ≠ w.heap.size + 1 + 1; omega) _, by (first | exact q | (rw [HF.out]; exact q) | (have q' := q; rw [← HF.out] at q'; exact q')), hB.setCell (p := ⟨w.heap.size + 1 + 1, 3, none⟩) (by show w.heap.size ≤ w.heap.size + 1 + 1; omega) _⟩
          case measure => (simp [intOf]) <;> omega
        · rw [hv] at hc hst
          have hfin : y + 1 = wk f 3 i := by rw [hst]; simp
          have ha : IntKind.u64.wrap ((y : Int) + 1) = (wk f 3 i : Int) := u64_wrap _ hb _ (by omega)
          clear hst hfin hd hy  hv
          go_wp2
          go_roundw
          case rel =>
            have q := (h2.s3 (.int .u64 (y : Int))).s3 (.int .u64 (wk f 3 i))
            rw [hs0.out, hs1.out, hs2.out] at q
            exact ⟨i, by omega, by simp, (h0.other (p := ⟨w.heap.size + 1 + 1, 3, none⟩) (by show w.heap.size ≠ w.heap.size + 1 + 1; omega) _).other (p := ⟨w.heap.size + 1 + 1, 3, none⟩) (by show w.heap.size ≠ w.heap.size + 1 + 1; omega) _, (h1.other (p := ⟨w.heap.size + 1 + 1, 3, none⟩) (by show w.heap.size + 1 ≠ w.heap.size + 1 + 1; omega) _).other (p := ⟨w.heap.size + 1 + 1, 3, none⟩) (by show w.heap.size + 1 ≠ w.heap.size + 1 + 1; omega) _, q, (hB.setCell (p := ⟨w.heap.size + 1 + 1, 3, none⟩) (by show w.heap.size ≤ w.heap.size + 1 + 1; omega) _).setCell (p := ⟨w.heap.size + 1 + 1, 3, none⟩) (by show w.heap.size ≤ w.heap.size + 1 + 1; omega) _⟩
          case measure => (simp [intOf]) <;> omega

end Go.Proofs.YtblogejljilcdaaDoor
