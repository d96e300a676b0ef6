/- The contracts of Or, Size and other. -/
import Derived.Test.YtfkidgbjjlgjdaaDoorZSetB
namespace Go.Proofs.YtfkidgbjjlgjdaaDoor
open Go.RowKit
set_option linter.unusedVariables false
set_option linter.unusedSimpArgs false

/-- The bytes that are in one of F 0 .. F (k - 1). -/
def anyF (F : Nat → Nat → Bool) : Nat → Nat → Bool
  | 0, _ => false
  | k + 1, i => anyF F k i || F k i

theorem or_words (f g : Nat → Bool) (k : Nat) : bits BinOp.or IntKind.u64 (wd f k) (wd g k) = (wd (fun i => f i || g i) k : Int) := by
  rw [bits_or_u64_nat _ _ (wd_lt f k) (wd_lt g k), wd_or]

set_option maxHeartbeats 8000000 in
theorem or_go (F : Nat → Nat → Bool) (n cap b : Nat) (hn : n < 1000) (w : World) (hb : b < w.heap.size)
    (hc : ∀ i, i < n → (w.cell? ⟨b, i * 4, none⟩ = some (.int .u64 (wd (F i) 0)) ∧ w.cell? ⟨b, i * 4 + 1, none⟩ = some (.int .u64 (wd (F i) 1)) ∧ w.cell? ⟨b, i * 4 + 2, none⟩ = some (.int .u64 (wd (F i) 2)) ∧ w.cell? ⟨b, i * 4 + 3, none⟩ = some (.int .u64 (wd (F i) 3)))) :
    Calls Tryd.prog 18 #[.slice (some ⟨b, 0, none⟩) n cap] w fun e w' => e = .returned (sv (anyF F n)) ∧ Below w.heap.size w w' := by
  have HC := Lib.hid hc
  clear hc
  go_enter Tryd.func18, Tryd.ntmps18
  go_wp2
  go_loopw [9] (fun i wr => ∃ k : Nat, k ≤ n ∧ i = .int .i64 k ∧ FourS wr w.heap.size (fun _ => false) ∧ FourS wr (w.heap.size + 1) (anyF F k) ∧ Below w.heap.size w wr)
    (fun i _ => n - (intOf i).toNat)
  case atStart =>
    refine ⟨0, by omega, rfl, ?_, ?_, ?_⟩
    · exact FourS.zero ((Four.new w _ _ _ _ _).alloc _) (fun _ _ => rfl)
    · refine FourS.zero ?_ (fun i _ => by simp [anyF])
      have := Four.new (w.alloc (.cells #[.int .u64 0, .int .u64 0, .int .u64 0, .int .u64 0] 39)) 39 (.int .u64 0) (.int .u64 0) (.int .u64 0) (.int .u64 0)
      rwa [World.size_alloc] at this
    · exact ((Below.refl _ w).alloc (Nat.le_refl _) _).alloc (by simp) _
  case round =>
    obtain ⟨k, hk, rfl, h0, h1, hB⟩ := hrel
    have h0c0 := h0.c0
    have h0c1 := h0.c1
    have h0c2 := h0.c2
    have h0c3 := h0.c3
    have h0f0 := h0.fz 0
    have h0f1 := h0.fz 1
    have h0f2 := h0.fz 2
    have h0f3 := h0.fz 3
    have h1c0 := h1.c0
    have h1c1 := h1.c1
    have h1c2 := h1.c2
    have h1c3 := h1.c3
    have h1f0 := h1.fz 0
    have h1f1 := h1.fz 1
    have h1f2 := h1.fz 2
    have h1f3 := h1.fz 3
    by_cases hlt : k < n
    · obtain ⟨d0, d1, d2, d3⟩ := HC.out k hlt
      rw [← hB.cell (p := ⟨b, _, none⟩) hb] at d0 d1 d2 d3
      have e0 := or_words (anyF F k) (F k) 0
      have e1 := or_words (anyF F k) (F k) 1
      have e2 := or_words (anyF F k) (F k) 2
      have e3 := or_words (anyF F k) (F k) 3
      have eG : (fun i => anyF F k i || F k i) = anyF F (k + 1) := rfl
      rw [eG] at e0 e1 e2 e3
      clear eG
      generalize anyF F k = G1 at *
      go_wp2
      obtain ⟨wo, rfl⟩ : ∃ wo, wo = wr := ⟨_, rfl⟩
      have hlo := h1.lt
      go_loopw [13] (fun i ws => ((i = .int .i64 0 ∧ Four ws (w.heap.size + 1) 39 (.int .u64 (wd G1 0)) (.int .u64 (wd G1 1)) (.int .u64 (wd G1 2)) (.int .u64 (wd G1 3))) ∨ (i = .int .i64 1 ∧ Four ws (w.heap.size + 1) 39 (.int .u64 (wd (anyF F (k + 1)) 0)) (.int .u64 (wd G1 1)) (.int .u64 (wd G1 2)) (.int .u64 (wd G1 3))) ∨ (i = .int .i64 2 ∧ Four ws (w.heap.size + 1) 39 (.int .u64 (wd (anyF F (k + 1)) 0)) (.int .u64 (wd (anyF F (k + 1)) 1)) (.int .u64 (wd G1 2)) (.int .u64 (wd G1 3))) ∨ (i = .int .i64 3 ∧ Four ws (w.heap.size + 1) 39 (.int .u64 (wd (anyF F (k + 1)) 0)) (.int .u64 (wd (anyF F (k + 1)) 1)) (.int .u64 (wd (anyF F (k + 1)) 2)) (.int .u64 (wd G1 3))) ∨ (i = .int .i64 4 ∧ Four ws (w.heap.size + 1) 39 (.int .u64 (wd (anyF F (k + 1)) 0)) (.int .u64 (wd (anyF F (k + 1)) 1)) (.int .u64 (wd (anyF F (k + 1)) 2)) (.int .u64 (wd (anyF F (k + 1)) 3)))) ∧ FourS ws w.heap.size (fun _ => false) ∧ FourS ws wo.heap.size (F k) ∧ Below w.heap.size w ws) (fun i _ => 4 - (intOf i).toNat)
      case atStart =>
        exact ⟨.inl ⟨rfl, h1.alloc _⟩, h0.alloc _, Four.new _ _ _ _ _ _, hB.alloc hB.size _⟩
      case round =>
        obtain ⟨hst, r0, rF, rB⟩ := hrel
        have rFc0 := rF.c0; have rFc1 := rF.c1; have rFc2 := rF.c2; have rFc3 := rF.c3
        clear h0c0 h0c1 h0c2 h0c3 h0f0 h0f1 h0f2 h0f3 h1c0 h1c1 h1c2 h1c3 h1f0 h1f1 h1f2 h1f3 d0 d1 d2 d3
        rcases hst with ⟨rfl, h⟩ | ⟨rfl, h⟩ | ⟨rfl, h⟩ | ⟨rfl, h⟩ | ⟨rfl, h⟩
        · have hc := h.c0; have hf := h.fz 0
          go_wp2_with fail
          go_region
          go_wp2
          go_roundw
          case rel =>
            have q := h.s0 (.int .u64 (wd (anyF F (k + 1)) 0)) |>.drew
            exact ⟨.inr (.inl ⟨rfl, q⟩), (r0.other (p := ⟨w.heap.size + 1, 0, none⟩) (by simp) _).drew, (rF.other (p := ⟨w.heap.size + 1, 0, none⟩) (by simp; omega) _).drew, (rB.setCell (p := ⟨w.heap.size + 1, 0, none⟩) (by simp) _).drew⟩
          case measure => simp [intOf]
        · have hc := h.c1; have hf := h.fz 1
          go_wp2_with fail
          go_region
          go_wp2
          go_roundw
          case rel =>
            have q := h.s1 (.int .u64 (wd (anyF F (k + 1)) 1)) |>.drew
            exact ⟨.inr (.inr (.inl ⟨rfl, q⟩)), (r0.other (p := ⟨w.heap.size + 1, 1, none⟩) (by simp) _).drew, (rF.other (p := ⟨w.heap.size + 1, 1, none⟩) (by simp; omega) _).drew, (rB.setCell (p := ⟨w.heap.size + 1, 1, none⟩) (by simp) _).drew⟩
          case measure => simp [intOf]
        · have hc := h.c2; have hf := h.fz 2
          go_wp2_with fail
          go_region
          go_wp2
          go_roundw
          case rel =>
            have q := h.s2 (.int .u64 (wd (anyF F (k + 1)) 2)) |>.drew
            exact ⟨.inr (.inr (.inr (.inl ⟨rfl, q⟩))), (r0.other (p := ⟨w.heap.size + 1, 2, none⟩) (by simp) _).drew, (rF.other (p := ⟨w.heap.size + 1, 2, none⟩) (by simp; omega) _).drew, (rB.setCell (p := ⟨w.heap.size + 1, 2, none⟩) (by simp) _).drew⟩
          case measure => simp [intOf]
        · have hc := h.c3; have hf := h.fz 3
          go_wp2_with fail
          go_region
          go_wp2
          go_roundw
          case rel =>
            have q := h.s3 (.int .u64 (wd (anyF F (k + 1)) 3)) |>.drew
            exact ⟨.inr (.inr (.inr (.inr (⟨rfl, q⟩)))), (r0.other (p := ⟨w.heap.size + 1, 3, none⟩) (by simp) _).drew, (rF.other (p := ⟨w.heap.size + 1, 3, none⟩) (by simp; omega) _).drew, (rB.setCell (p := ⟨w.heap.size + 1, 3, none⟩) (by simp) _).drew⟩
          case measure => simp [intOf]
        · go_wp2
          go_roundw
          case rel => exact ⟨k + 1, by omega, by simp, r0, h, rB⟩
          case measure => simp [intOf]; omega
    · obtain rfl : k = n := by omega
      go_wp2
      have q := FourS.set h0 (anyF F k)
      have qc0 := q.c0; have qc1 := q.c1; have qc2 := q.c2; have qc3 := q.c3
      refine bodyPost_ret (v := sv (anyF F k)) (by simp [results, Tryd.results18, go_sem, qc0, qc1, qc2, qc3, sv]) rfl ?_
      exact ⟨rfl, Below.set4 hB (by omega) _ _ _ _⟩

theorem idx0 (a b c d : Int) (w : World) : (Instr.index 39 (.agg #[.int .u64 a, .int .u64 b, .int .u64 c, .int .u64 d]) (.int .i64 0)).run Tryd.prog w = .ok (.int .u64 a) w := by kernel_rfl
theorem idx1 (a b c d : Int) (w : World) : (Instr.index 39 (.agg #[.int .u64 a, .int .u64 b, .int .u64 c, .int .u64 d]) (.int .i64 1)).run Tryd.prog w = .ok (.int .u64 b) w := by kernel_rfl
theorem idx2 (a b c d : Int) (w : World) : (Instr.index 39 (.agg #[.int .u64 a, .int .u64 b, .int .u64 c, .int .u64 d]) (.int .i64 2)).run Tryd.prog w = .ok (.int .u64 c) w := by kernel_rfl
theorem idx3 (a b c d : Int) (w : World) : (Instr.index 39 (.agg #[.int .u64 a, .int .u64 b, .int .u64 c, .int .u64 d]) (.int .i64 3)).run Tryd.prog w = .ok (.int .u64 d) w := by kernel_rfl

theorem cnt_wd (f : Nat → Bool) (k : Nat) : cnt (wd f k).testBit 64 = cnt (fun j => f (64 * k + j)) 64 := cnt_congr fun i hi => wd_bit f k i hi

set_option maxHeartbeats 4000000 in
theorem size_go (f : Nat → Bool) (a0 a1 a2 a3 a4 d0 d1 d2 d3 : Nat) (h0 : a0 = 0) (hd0 : cnt (wd f 0).testBit 64 = d0) (hd1 : cnt (wd f 1).testBit 64 = d1) (hd2 : cnt (wd f 2).testBit 64 = d2) (hd3 : cnt (wd f 3).testBit 64 = d3)
    (s0 : wrap64 ((a0 : Int) + d0) = (a1 : Int)) (s1 : wrap64 ((a1 : Int) + d1) = (a2 : Int)) (s2 : wrap64 ((a2 : Int) + d2) = (a3 : Int)) (s3 : wrap64 ((a3 : Int) + d3) = (a4 : Int)) (w : World) :
    Calls Tryd.prog 69 #[sv f] w fun e w' => e = .returned (.int .i64 (a4 : Int)) ∧ Below w.heap.size w w' := by
  have i0 := idx0 (wd f 0) (wd f 1) (wd f 2) (wd f 3); have i1 := idx1 (wd f 0) (wd f 1) (wd f 2) (wd f 3); have i2 := idx2 (wd f 0) (wd f 1) (wd f 2) (wd f 3); have i3 := idx3 (wd f 0) (wd f 1) (wd f 2) (wd f 3)
  have HD0 := Lib.hid hd0; have HD1 := Lib.hid hd1; have HD2 := Lib.hid hd2; have HD3 := Lib.hid hd3; have H0 := Lib.hid h0
  clear hd0 hd1 hd2 hd3 h0
  unfold sv
  go_enter Tryd.func69, Tryd.ntmps69
  go_wp2
  go_loop [7, 3] (fun i t => (i = .int .i64 0 ∧ t = .int .i64 (a0 : Int)) ∨ (i = .int .i64 1 ∧ t = .int .i64 (a1 : Int)) ∨ (i = .int .i64 2 ∧ t = .int .i64 (a2 : Int)) ∨ (i = .int .i64 3 ∧ t = .int .i64 (a3 : Int)) ∨ (i = .int .i64 4 ∧ t = .int .i64 (a4 : Int)))
    (fun i _ => 4 - (intOf i).toNat)
  case atStart => exact .inl ⟨rfl, by rw [H0.out]; rfl⟩
  case round =>
    rcases hrel with ⟨rfl, rfl⟩ | ⟨rfl, rfl⟩ | ⟨rfl, rfl⟩ | ⟨rfl, rfl⟩ | ⟨rfl, rfl⟩
    · go_wp2_with fail
      refine (ones_c _ (wd_lt f 0) _).mono ?_
      rintro e w1 ⟨rfl, rfl⟩
      rw [HD0.out]
      go_wp2
      go_round
      case rel => exact .inr (.inl ⟨rfl, by simp [s0, s1, s2, s3]⟩)
      case measure => simp [intOf]
    · go_wp2_with fail
      refine (ones_c _ (wd_lt f 1) _).mono ?_
      rintro e w1 ⟨rfl, rfl⟩
      rw [HD1.out]
      go_wp2
      go_round
      case rel => exact .inr (.inr (.inl ⟨rfl, by simp [s0, s1, s2, s3]⟩))
      case measure => simp [intOf]
    · go_wp2_with fail
      refine (ones_c _ (wd_lt f 2) _).mono ?_
      rintro e w1 ⟨rfl, rfl⟩
      rw [HD2.out]
      go_wp2
      go_round
      case rel => exact .inr (.inr (.inr (.inl ⟨rfl, by simp [s0, s1, s2, s3]⟩)))
      case measure => simp [intOf]
    · go_wp2_with fail
      refine (ones_c _ (wd_lt f 3) _).mono ?_
      rintro e w1 ⟨rfl, rfl⟩
      rw [HD3.out]
      go_wp2
      go_round
      case rel => exact .inr (.inr (.inr (.inr (⟨rfl, by simp [s0, s1, s2, s3]⟩))))
      case measure => simp [intOf]
    · go_wp2
      go_ret
      exact ⟨rfl, (Below.refl _ w).alloc (Nat.le_refl _) _⟩

/-- **Size: how many bytes are in the set.** -/
theorem size_c (f : Nat → Bool) (w : World) :
    Calls Tryd.prog 69 #[sv f] w fun e w' => e = .returned (.int .i64 ((cnt f 256 : Nat) : Int)) ∧ Below w.heap.size w w' := by
  have hs : ∀ k : Nat, k < 4 → wrap64 (((cnt f (64 * k) : Nat) : Int) + ((cnt (wd f k).testBit 64 : Nat) : Int)) = ((cnt f (64 * (k + 1)) : Nat) : Int) := fun k hk => by
    have h1 := cnt_add f (64 * k) 64
    have h2 := cnt_le f (64 * (k + 1))
    rw [show 64 * (k + 1) = 64 * k + 64 by omega] at h2 ⊢
    rw [h1] at h2 ⊢
    rw [cnt_wd]; unfold wrap64
    omega
  exact size_go f 0 (cnt f 64) (cnt f 128) (cnt f 192) (cnt f 256) _ _ _ _ rfl rfl rfl rfl rfl (hs 0 (by omega)) (hs 1 (by omega)) (hs 2 (by omega)) (hs 3 (by omega)) w

/-- The other letter. -/
def oth (b : Nat) : Nat := if 65 ≤ b ∧ b ≤ 90 then b + 32 else if 97 ≤ b ∧ b ≤ 122 then b - 32 else b

set_option maxHeartbeats 1000000 in
theorem other_c (b : Nat) (hb : b < 256) (w : World) :
    Calls Tryd.prog 59 #[.int .u8 b] w fun e w' => e = .returned (.int .u8 (oth b)) ∧ w' = w := by
  unfold oth
  by_cases h1 : 65 ≤ b
  · by_cases h2 : b ≤ 90
    · have h3 : (b : Int) - 65 + 97 = b + 32 := by omega
      rw [if_pos ⟨h1, h2⟩]
      go_enter Tryd.func59, Tryd.ntmps59
      go_wp2
      go_ret
      exact ⟨by simp, rfl⟩
    · have h4 : ¬ (65 ≤ b ∧ b ≤ 90) := by omega
      rw [if_neg h4]
      clear h4
      by_cases h5 : 97 ≤ b
      · by_cases h6 : b ≤ 122
        · have h7 : (b : Int) - 97 + 65 = b - 32 := by omega
          rw [if_pos ⟨h5, h6⟩]
          have h8 : ((b - 32 : Nat) : Int) = b - 32 := by omega
          rw [h8]
          clear h8
          go_enter Tryd.func59, Tryd.ntmps59
          go_wp2
          go_ret
          exact ⟨by simp, rfl⟩
        · rw [if_neg (by omega)]
          go_enter Tryd.func59, Tryd.ntmps59
          go_wp2
          go_ret
          exact ⟨by simp, rfl⟩
      · rw [if_neg (by omega)]
        go_enter Tryd.func59, Tryd.ntmps59
        go_wp2
        go_ret
        exact ⟨by simp, rfl⟩
  · rw [if_neg (by omega), if_neg (by omega)]
    go_enter Tryd.func59, Tryd.ntmps59
    go_wp2
    go_ret
    exact ⟨by simp, rfl⟩

set_option maxHeartbeats 1000000 in
theorem each_in (f : Nat → Bool) (w : World) :
    Calls Tryd.prog 58 #[sv f] w fun e w' => e = .returned (.func (.func 71) #[] #[.pointer (some ⟨w.heap.size, 0, none⟩)]) ∧ w' = w.alloc (.cells #[.int .u64 (wd f 0), .int .u64 (wd f 1), .int .u64 (wd f 2), .int .u64 (wd f 3)] 39) := by
  unfold sv
  go_enter Tryd.func58, Tryd.ntmps58
  go_wp2
  go_ret
  exact ⟨rfl, rfl⟩

end Go.Proofs.YtfkidgbjjlgjdaaDoor
