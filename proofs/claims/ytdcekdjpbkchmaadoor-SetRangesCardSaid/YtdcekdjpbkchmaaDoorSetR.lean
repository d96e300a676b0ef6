/- SetRanges: the walk. -/
import Derived.Test.YtdcekdjpbkchmaaDoorSetS
namespace Go.Proofs.YtdcekdjpbkchmaaDoor
open Go.RowKit
set_option linter.unusedVariables false
set_option linter.unusedSimpArgs false

theorem cnt_rg (a b : Nat) : ∀ n, cnt (rg a b) n = min n (b + 1) - a
  | 0 => by simp [cnt]
  | n + 1 => by
    rw [cnt, cnt_rg a b n]
    by_cases h1 : a ≤ n <;> by_cases h2 : n ≤ b <;> simp [rg, h1, h2] <;> omega

set_option maxHeartbeats 4000000 in
theorem ranges_yes1 (a b c : Nat) (ha : a < 256) (hb : b < 256) (hc : c < 256) (f : Nat → Bool) (d : Int) (hd : (b : Int) - a + 1 = d) (hz : 0 < d) (h1 : a ≤ c) (h2 : c ≤ b)
    (hr : ∀ w, Calls Tryd.prog 15 #[.int .u8 a, .int .u8 b] w fun e w' => e = .returned (sv f) ∧ Below w.heap.size w w')
    (hh : ∀ w, Calls Tryd.prog 14 #[sv f, .int .u8 c] w fun e w' => e = .returned (.bool true) ∧ Below w.heap.size w w')
    (hs : ∀ w, Calls Tryd.prog 23 #[sv f] w fun e w' => e = .returned (.int .i64 d) ∧ Below w.heap.size w w')
    (w : World) (hw : Fit w) :
    Calls Tryd.prog 8 #[.int .u8 a, .int .u8 b, .int .u8 c] w fun e w' => e = .returned (.bool true) ∧ Below w.heap.size w w' := by
  have HR := Lib.hid hr; have HH := Lib.hid hh; have HS := Lib.hid hs; have HX := Lib.hid (fun w hw => shown_c w hw)
  clear hr hh hs
  go_enter Tryd.func8, Tryd.ntmps8
  go_wp2_with fail
  refine (HR.out _).mono ?_
  rintro e w1 ⟨rfl, hB1⟩
  have F1 := Four.new w1 24 (.int .u64 (wd f 0)) (.int .u64 (wd f 1)) (.int .u64 (wd f 2)) (.int .u64 (wd f 3))
  have b1 : Below w.heap.size w (w1.alloc (.cells #[.int .u64 (wd f 0), .int .u64 (wd f 1), .int .u64 (wd f 2), .int .u64 (wd f 3)] 24)) := hB1.alloc hB1.size _
  have f1 := hw.below b1
  simp only [sv]
  go_wp2_with fail
  refine (HH.out _).mono ?_
  rintro e w2 ⟨rfl, hB2⟩
  have F2 := F1.below hB2 F1.lt
  have f2 := f1.below hB2
  have b2 := b1.trans (hB2.mono b1.size)
  have F2c0 := F2.c0; have F2c1 := F2.c1; have F2c2 := F2.c2; have F2c3 := F2.c3
  go_wp2_with fail
  refine (HS.out _).mono ?_
  rintro e w3 ⟨rfl, hB3⟩
  have f3 := f2.below hB3
  have b3 := b2.trans (hB3.mono b2.size)
  go_wp2_with (go_at_call 10; refine (HX.out _ f3).mono ?_; rintro e w4 ⟨rfl, hB4⟩; have b4 := b3.trans (hB4.mono b3.size))
  go_ret
  exact ⟨rfl, b4⟩

set_option maxHeartbeats 4000000 in
theorem ranges_over1 (a b c : Nat) (ha : a < 256) (hb : b < 256) (hc : c < 256) (f : Nat → Bool) (d : Int) (hd : (b : Int) - a + 1 = d) (hz : 0 < d) (h1 : a ≤ c) (h2 : ¬ c ≤ b)
    (hr : ∀ w, Calls Tryd.prog 15 #[.int .u8 a, .int .u8 b] w fun e w' => e = .returned (sv f) ∧ Below w.heap.size w w')
    (hh : ∀ w, Calls Tryd.prog 14 #[sv f, .int .u8 c] w fun e w' => e = .returned (.bool false) ∧ Below w.heap.size w w')
    (hs : ∀ w, Calls Tryd.prog 23 #[sv f] w fun e w' => e = .returned (.int .i64 d) ∧ Below w.heap.size w w')
    (w : World) (hw : Fit w) :
    Calls Tryd.prog 8 #[.int .u8 a, .int .u8 b, .int .u8 c] w fun e w' => e = .returned (.bool true) ∧ Below w.heap.size w w' := by
  have HR := Lib.hid hr; have HH := Lib.hid hh; have HS := Lib.hid hs; have HX := Lib.hid (fun w hw => shown_c w hw)
  clear hr hh hs
  go_enter Tryd.func8, Tryd.ntmps8
  go_wp2_with fail
  refine (HR.out _).mono ?_
  rintro e w1 ⟨rfl, hB1⟩
  have F1 := Four.new w1 24 (.int .u64 (wd f 0)) (.int .u64 (wd f 1)) (.int .u64 (wd f 2)) (.int .u64 (wd f 3))
  have b1 : Below w.heap.size w (w1.alloc (.cells #[.int .u64 (wd f 0), .int .u64 (wd f 1), .int .u64 (wd f 2), .int .u64 (wd f 3)] 24)) := hB1.alloc hB1.size _
  have f1 := hw.below b1
  simp only [sv]
  go_wp2_with fail
  refine (HH.out _).mono ?_
  rintro e w2 ⟨rfl, hB2⟩
  have F2 := F1.below hB2 F1.lt
  have f2 := f1.below hB2
  have b2 := b1.trans (hB2.mono b1.size)
  have F2c0 := F2.c0; have F2c1 := F2.c1; have F2c2 := F2.c2; have F2c3 := F2.c3
  go_wp2_with fail
  refine (HS.out _).mono ?_
  rintro e w3 ⟨rfl, hB3⟩
  have f3 := f2.below hB3
  have b3 := b2.trans (hB3.mono b2.size)
  go_wp2_with (go_at_call 10; refine (HX.out _ f3).mono ?_; rintro e w4 ⟨rfl, hB4⟩; have b4 := b3.trans (hB4.mono b3.size))
  go_ret
  exact ⟨rfl, b4⟩

set_option maxHeartbeats 4000000 in
theorem ranges_over0 (a b c : Nat) (ha : a < 256) (hb : b < 256) (hc : c < 256) (f : Nat → Bool) (d : Int) (hd : (b : Int) - a + 1 = d) (hz : d ≤ 0) (h1 : a ≤ c) (h2 : ¬ c ≤ b)
    (hr : ∀ w, Calls Tryd.prog 15 #[.int .u8 a, .int .u8 b] w fun e w' => e = .returned (sv f) ∧ Below w.heap.size w w')
    (hh : ∀ w, Calls Tryd.prog 14 #[sv f, .int .u8 c] w fun e w' => e = .returned (.bool false) ∧ Below w.heap.size w w')
    (hs : ∀ w, Calls Tryd.prog 23 #[sv f] w fun e w' => e = .returned (.int .i64 0) ∧ Below w.heap.size w w')
    (w : World) (hw : Fit w) :
    Calls Tryd.prog 8 #[.int .u8 a, .int .u8 b, .int .u8 c] w fun e w' => e = .returned (.bool true) ∧ Below w.heap.size w w' := by
  have HR := Lib.hid hr; have HH := Lib.hid hh; have HS := Lib.hid hs; have HX := Lib.hid (fun w hw => shown_c w hw)
  clear hr hh hs
  go_enter Tryd.func8, Tryd.ntmps8
  go_wp2_with fail
  refine (HR.out _).mono ?_
  rintro e w1 ⟨rfl, hB1⟩
  have F1 := Four.new w1 24 (.int .u64 (wd f 0)) (.int .u64 (wd f 1)) (.int .u64 (wd f 2)) (.int .u64 (wd f 3))
  have b1 : Below w.heap.size w (w1.alloc (.cells #[.int .u64 (wd f 0), .int .u64 (wd f 1), .int .u64 (wd f 2), .int .u64 (wd f 3)] 24)) := hB1.alloc hB1.size _
  have f1 := hw.below b1
  simp only [sv]
  go_wp2_with fail
  refine (HH.out _).mono ?_
  rintro e w2 ⟨rfl, hB2⟩
  have F2 := F1.below hB2 F1.lt
  have f2 := f1.below hB2
  have b2 := b1.trans (hB2.mono b1.size)
  have F2c0 := F2.c0; have F2c1 := F2.c1; have F2c2 := F2.c2; have F2c3 := F2.c3
  go_wp2_with fail
  refine (HS.out _).mono ?_
  rintro e w3 ⟨rfl, hB3⟩
  have f3 := f2.below hB3
  have b3 := b2.trans (hB3.mono b2.size)
  go_wp2_with (go_at_call 10; refine (HX.out _ f3).mono ?_; rintro e w4 ⟨rfl, hB4⟩; have b4 := b3.trans (hB4.mono b3.size))
  go_ret
  exact ⟨rfl, b4⟩

set_option maxHeartbeats 4000000 in
theorem ranges_under1 (a b c : Nat) (ha : a < 256) (hb : b < 256) (hc : c < 256) (f : Nat → Bool) (d : Int) (hd : (b : Int) - a + 1 = d) (hz : 0 < d) (h1 : ¬ a ≤ c)
    (hr : ∀ w, Calls Tryd.prog 15 #[.int .u8 a, .int .u8 b] w fun e w' => e = .returned (sv f) ∧ Below w.heap.size w w')
    (hh : ∀ w, Calls Tryd.prog 14 #[sv f, .int .u8 c] w fun e w' => e = .returned (.bool false) ∧ Below w.heap.size w w')
    (hs : ∀ w, Calls Tryd.prog 23 #[sv f] w fun e w' => e = .returned (.int .i64 d) ∧ Below w.heap.size w w')
    (w : World) (hw : Fit w) :
    Calls Tryd.prog 8 #[.int .u8 a, .int .u8 b, .int .u8 c] w fun e w' => e = .returned (.bool true) ∧ Below w.heap.size w w' := by
  have HR := Lib.hid hr; have HH := Lib.hid hh; have HS := Lib.hid hs; have HX := Lib.hid (fun w hw => shown_c w hw)
  clear hr hh hs
  go_enter Tryd.func8, Tryd.ntmps8
  go_wp2_with fail
  refine (HR.out _).mono ?_
  rintro e w1 ⟨rfl, hB1⟩
  have F1 := Four.new w1 24 (.int .u64 (wd f 0)) (.int .u64 (wd f 1)) (.int .u64 (wd f 2)) (.int .u64 (wd f 3))
  have b1 : Below w.heap.size w (w1.alloc (.cells #[.int .u64 (wd f 0), .int .u64 (wd f 1), .int .u64 (wd f 2), .int .u64 (wd f 3)] 24)) := hB1.alloc hB1.size _
  have f1 := hw.below b1
  simp only [sv]
  go_wp2_with fail
  refine (HH.out _).mono ?_
  rintro e w2 ⟨rfl, hB2⟩
  have F2 := F1.below hB2 F1.lt
  have f2 := f1.below hB2
  have b2 := b1.trans (hB2.mono b1.size)
  have F2c0 := F2.c0; have F2c1 := F2.c1; have F2c2 := F2.c2; have F2c3 := F2.c3
  go_wp2_with fail
  refine (HS.out _).mono ?_
  rintro e w3 ⟨rfl, hB3⟩
  have f3 := f2.below hB3
  have b3 := b2.trans (hB3.mono b2.size)
  go_wp2_with (go_at_call 10; refine (HX.out _ f3).mono ?_; rintro e w4 ⟨rfl, hB4⟩; have b4 := b3.trans (hB4.mono b3.size))
  go_ret
  exact ⟨rfl, b4⟩

set_option maxHeartbeats 4000000 in
theorem ranges_under0 (a b c : Nat) (ha : a < 256) (hb : b < 256) (hc : c < 256) (f : Nat → Bool) (d : Int) (hd : (b : Int) - a + 1 = d) (hz : d ≤ 0) (h1 : ¬ a ≤ c)
    (hr : ∀ w, Calls Tryd.prog 15 #[.int .u8 a, .int .u8 b] w fun e w' => e = .returned (sv f) ∧ Below w.heap.size w w')
    (hh : ∀ w, Calls Tryd.prog 14 #[sv f, .int .u8 c] w fun e w' => e = .returned (.bool false) ∧ Below w.heap.size w w')
    (hs : ∀ w, Calls Tryd.prog 23 #[sv f] w fun e w' => e = .returned (.int .i64 0) ∧ Below w.heap.size w w')
    (w : World) (hw : Fit w) :
    Calls Tryd.prog 8 #[.int .u8 a, .int .u8 b, .int .u8 c] w fun e w' => e = .returned (.bool true) ∧ Below w.heap.size w w' := by
  have HR := Lib.hid hr; have HH := Lib.hid hh; have HS := Lib.hid hs; have HX := Lib.hid (fun w hw => shown_c w hw)
  clear hr hh hs
  go_enter Tryd.func8, Tryd.ntmps8
  go_wp2_with fail
  refine (HR.out _).mono ?_
  rintro e w1 ⟨rfl, hB1⟩
  have F1 := Four.new w1 24 (.int .u64 (wd f 0)) (.int .u64 (wd f 1)) (.int .u64 (wd f 2)) (.int .u64 (wd f 3))
  have b1 : Below w.heap.size w (w1.alloc (.cells #[.int .u64 (wd f 0), .int .u64 (wd f 1), .int .u64 (wd f 2), .int .u64 (wd f 3)] 24)) := hB1.alloc hB1.size _
  have f1 := hw.below b1
  simp only [sv]
  go_wp2_with fail
  refine (HH.out _).mono ?_
  rintro e w2 ⟨rfl, hB2⟩
  have F2 := F1.below hB2 F1.lt
  have f2 := f1.below hB2
  have b2 := b1.trans (hB2.mono b1.size)
  have F2c0 := F2.c0; have F2c1 := F2.c1; have F2c2 := F2.c2; have F2c3 := F2.c3
  go_wp2_with fail
  refine (HS.out _).mono ?_
  rintro e w3 ⟨rfl, hB3⟩
  have f3 := f2.below hB3
  have b3 := b2.trans (hB3.mono b2.size)
  go_wp2_with (go_at_call 10; refine (HX.out _ f3).mono ?_; rintro e w4 ⟨rfl, hB4⟩; have b4 := b3.trans (hB4.mono b3.size))
  go_ret
  exact ⟨rfl, b4⟩


/-- **SetRanges: true, whatever the bytes.** -/
theorem setRangesW (a b c : Nat) (ha : a < 256) (hb : b < 256) (hc : c < 256) (w : World) (hw : Fit w) :
    Calls Tryd.prog 8 #[.int .u8 a, .int .u8 b, .int .u8 c] w fun e w' => e = .returned (.bool true) ∧ Below w.heap.size w w' := by
  have hr := fun w => range_c a b ha hb w
  have hz : ∀ w, Calls Tryd.prog 23 #[sv (rg a b)] w fun e w' => e = .returned (.int .i64 ((min 256 (b + 1) - a : Nat) : Int)) ∧ Below w.heap.size w w' := fun w => by
    have := size_c (rg a b) w
    rwa [cnt_rg] at this
  have hh := fun w => has_c (rg a b) c hc w
  by_cases h1 : a ≤ c
  · by_cases h2 : c ≤ b
    · have e : rg a b c = true := by simp [rg, h1, h2]
      rw [e] at hh
      have ez : ((min 256 (b + 1) - a : Nat) : Int) = (b : Int) - a + 1 := by omega
      rw [ez] at hz
      exact ranges_yes1 a b c ha hb hc (rg a b) _ rfl (by omega) h1 h2 hr hh hz w hw
    · have e : rg a b c = false := by simp [rg, h2]
      rw [e] at hh
      by_cases h3 : a ≤ b
      · have ez : ((min 256 (b + 1) - a : Nat) : Int) = (b : Int) - a + 1 := by omega
        rw [ez] at hz
        exact ranges_over1 a b c ha hb hc (rg a b) _ rfl (by omega) h1 h2 hr hh hz w hw
      · have ez : ((min 256 (b + 1) - a : Nat) : Int) = 0 := by omega
        rw [ez] at hz
        exact ranges_over0 a b c ha hb hc (rg a b) _ rfl (by omega) h1 h2 hr hh hz w hw
  · have e : rg a b c = false := by simp [rg, h1]
    rw [e] at hh
    by_cases h3 : a ≤ b
    · have ez : ((min 256 (b + 1) - a : Nat) : Int) = (b : Int) - a + 1 := by omega
      rw [ez] at hz
      exact ranges_under1 a b c ha hb hc (rg a b) _ rfl (by omega) h1 hr hh hz w hw
    · have ez : ((min 256 (b + 1) - a : Nat) : Int) = 0 := by omega
      rw [ez] at hz
      exact ranges_under0 a b c ha hb hc (rg a b) _ rfl (by omega) h1 hr hh hz w hw

end Go.Proofs.YtdcekdjpbkchmaaDoor
