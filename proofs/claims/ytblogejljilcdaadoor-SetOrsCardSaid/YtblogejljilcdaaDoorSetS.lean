/- The law's own look: 'shown' answers true. -/
import Derived.Test.YtblogejljilcdaaDoorSetE
import Derived.Test.YtblogejljilcdaaDoorSetP
namespace Go.Proofs.YtblogejljilcdaaDoor
open Go.RowKit
set_option linter.unusedVariables false
set_option linter.unusedSimpArgs false

/-- What the contracts ask of the world. -/
structure Fit (w : World) : Prop where
  tab : TabAt 0 Lib.deBruijn64tab w
  pos : 0 < w.heap.size
theorem Fit.below {w w' : World} (h : Fit w) (hB : Below w.heap.size w w') : Fit w' := ⟨TabAt.below h.tab hB h.pos, Nat.lt_of_lt_of_le h.pos hB.size⟩
theorem Fit.alloc {w : World} (h : Fit w) (o : Obj) : Fit (w.alloc o) := h.below ((Below.refl _ w).alloc (Nat.le_refl _) o)

set_option maxHeartbeats 4000000 in
theorem shown_go (a f m : Nat → Bool)
    (ho : ∀ w, Calls Tryd.prog 19 #[.string ⟨#[97, 49]⟩] w fun e w' => e = .returned (sv a) ∧ Below w.heap.size w w')
    (hf : ∀ w, Fit w → Calls Tryd.prog 25 #[sv a] w fun e w' => e = .returned (sv f) ∧ Below w.heap.size w w')
    (hc : ∀ w, Calls Tryd.prog 16 #[.string ⟨#[112, 117, 110, 99, 116]⟩] w fun e w' => e = .returned (.tuple #[sv m, .bool true]) ∧ Below w.heap.size w w')
    (hb : ∀ w, Fit w → Calls Tryd.prog 28 #[sv f] w fun e w' => e = .returned (.string ⟨#[49, 65, 97]⟩) ∧ Below w.heap.size w w')
    (hs : ∀ w, Calls Tryd.prog 14 #[sv f] w fun e w' => e = .returned (.int .i64 3) ∧ Below w.heap.size w w')
    (h1 : ∀ w, Calls Tryd.prog 13 #[sv f, .int .u8 65] w fun e w' => e = .returned (.bool true) ∧ Below w.heap.size w w')
    (h2 : ∀ w, Calls Tryd.prog 13 #[sv m, .int .u8 126] w fun e w' => e = .returned (.bool true) ∧ Below w.heap.size w w')
    (h3 : ∀ w, Calls Tryd.prog 13 #[sv m, .int .u8 122] w fun e w' => e = .returned (.bool false) ∧ Below w.heap.size w w')
    (w : World) (hw : Fit w) :
    Calls Tryd.prog 15 #[] w fun e w' => e = .returned (.bool true) ∧ Below w.heap.size w w' := by
  have HO := Lib.hid ho; have HF := Lib.hid hf; have HC := Lib.hid hc; have HB := Lib.hid hb; have HS := Lib.hid hs; have H1 := Lib.hid h1; have H2 := Lib.hid h2; have H3 := Lib.hid h3
  clear ho hf hc hb hs h1 h2 h3
  go_enter Tryd.func15, Tryd.ntmps15
  go_wp2_with fail
  refine (HO.out _).mono ?_
  rintro e w1 ⟨rfl, hB1⟩
  have f1 := hw.below hB1
  go_wp2_with fail
  refine (HF.out _ f1).mono ?_
  rintro e w2 ⟨rfl, hB2⟩
  have f2 := f1.below hB2
  have b2 : Below w.heap.size w w2 := hB1.trans (hB2.mono hB1.size)
  have F2 := Four.new w2 24 (.int .u64 (wd f 0)) (.int .u64 (wd f 1)) (.int .u64 (wd f 2)) (.int .u64 (wd f 3))
  have f2' := f2.alloc (.cells #[.int .u64 (wd f 0), .int .u64 (wd f 1), .int .u64 (wd f 2), .int .u64 (wd f 3)] 24)
  have b2' : Below w.heap.size w (w2.alloc (.cells #[.int .u64 (wd f 0), .int .u64 (wd f 1), .int .u64 (wd f 2), .int .u64 (wd f 3)] 24)) := b2.alloc b2.size _
  clear hB1 hB2
  simp only [sv]
  go_wp2_with fail
  refine (HC.out _).mono ?_
  rintro e w3 ⟨rfl, hB3⟩
  have f3 := f2'.below hB3
  have b3 : Below w.heap.size w w3 := b2'.trans (hB3.mono b2'.size)
  have F3 := F2.below hB3 F2.lt
  have hl3 := F3.lt
  have M3 := Four.new w3 24 (.int .u64 (wd m 0)) (.int .u64 (wd m 1)) (.int .u64 (wd m 2)) (.int .u64 (wd m 3))
  have f3' := f3.alloc (.cells #[.int .u64 (wd m 0), .int .u64 (wd m 1), .int .u64 (wd m 2), .int .u64 (wd m 3)] 24)
  have b3' : Below w.heap.size w (w3.alloc (.cells #[.int .u64 (wd m 0), .int .u64 (wd m 1), .int .u64 (wd m 2), .int .u64 (wd m 3)] 24)) := b3.alloc b3.size _
  have F3' := F3.alloc (.cells #[.int .u64 (wd m 0), .int .u64 (wd m 1), .int .u64 (wd m 2), .int .u64 (wd m 3)] 24)
  have F3c0 := F3.c0; have F3c1 := F3.c1; have F3c2 := F3.c2; have F3c3 := F3.c3
  have F3dc0 := F3'.c0; have F3dc1 := F3'.c1; have F3dc2 := F3'.c2; have F3dc3 := F3'.c3
  clear hB3 F2
  simp only [sv]
  go_wp2_with fail
  refine (HB.out _ f3').mono ?_
  rintro e w4 ⟨rfl, hB4⟩
  have f4 := f3'.below hB4
  have b4 : Below w.heap.size w w4 := b3'.trans (hB4.mono b3'.size)
  have F4 := F3'.below hB4 F3'.lt
  have M4 := M3.below hB4 M3.lt
  have F4c0 := F4.c0; have F4c1 := F4.c1; have F4c2 := F4.c2; have F4c3 := F4.c3
  have M4c0 := M4.c0; have M4c1 := M4.c1; have M4c2 := M4.c2; have M4c3 := M4.c3
  go_wp2_with fail
  refine (HS.out _).mono ?_
  rintro e w5 ⟨rfl, hB5⟩
  have f5 := f4.below hB5
  have b5 : Below w.heap.size w w5 := b4.trans (hB5.mono b4.size)
  have F5 := F4.below hB5 F4.lt
  have M5 := M4.below hB5 M4.lt
  have F5c0 := F5.c0; have F5c1 := F5.c1; have F5c2 := F5.c2; have F5c3 := F5.c3
  have M5c0 := M5.c0; have M5c1 := M5.c1; have M5c2 := M5.c2; have M5c3 := M5.c3
  go_wp2_with fail
  refine (H1.out _).mono ?_
  rintro e w6 ⟨rfl, hB6⟩
  have f6 := f5.below hB6
  have b6 : Below w.heap.size w w6 := b5.trans (hB6.mono b5.size)
  have F6 := F5.below hB6 F5.lt
  have M6 := M5.below hB6 M5.lt
  have F6c0 := F6.c0; have F6c1 := F6.c1; have F6c2 := F6.c2; have F6c3 := F6.c3
  have M6c0 := M6.c0; have M6c1 := M6.c1; have M6c2 := M6.c2; have M6c3 := M6.c3
  go_wp2_with fail
  refine (H2.out _).mono ?_
  rintro e w7 ⟨rfl, hB7⟩
  have f7 := f6.below hB7
  have b7 : Below w.heap.size w w7 := b6.trans (hB7.mono b6.size)
  have F7 := F6.below hB7 F6.lt
  have M7 := M6.below hB7 M6.lt
  have F7c0 := F7.c0; have F7c1 := F7.c1; have F7c2 := F7.c2; have F7c3 := F7.c3
  have M7c0 := M7.c0; have M7c1 := M7.c1; have M7c2 := M7.c2; have M7c3 := M7.c3
  go_wp2_with fail
  refine (H3.out _).mono ?_
  rintro e w8 ⟨rfl, hB8⟩
  have f8 := f7.below hB8
  have b8 : Below w.heap.size w w8 := b7.trans (hB8.mono b7.size)
  have F8 := F7.below hB8 F7.lt
  have M8 := M7.below hB8 M7.lt
  have F8c0 := F8.c0; have F8c1 := F8.c1; have F8c2 := F8.c2; have F8c3 := F8.c3
  have M8c0 := M8.c0; have M8c1 := M8.c1; have M8c2 := M8.c2; have M8c3 := M8.c3
  go_wp2
  go_ret
  exact ⟨rfl, b8⟩

/-- The classes' sets. -/
def punctF (i : Nat) : Bool := !((!rg 33 126 i) || rg 65 90 i || rg 97 122 i || rg 48 57 i)

theorem bytes_a1 : bytesOf (foldF (inS ⟨#[97, 49]⟩ 2)) = ⟨#[49, 65, 97]⟩ := by decide +kernel
theorem cnt_a1 : cnt (foldF (inS ⟨#[97, 49]⟩ 2)) 256 = 3 := by decide +kernel

theorem fold_fit (f : Nat → Bool) (w : World) (hw : Fit w) : Calls Tryd.prog 25 #[sv f] w fun e w' => e = .returned (sv (foldF f)) ∧ Below w.heap.size w w' := fold_c f w hw.tab hw.pos
theorem bytes_fit (f : Nat → Bool) (w : World) (hw : Fit w) : Calls Tryd.prog 28 #[sv f] w fun e w' => e = .returned (.string (bytesOf f)) ∧ Below w.heap.size w w' := bytes_c f w hw.tab hw.pos

theorem punct_c (w : World) : Calls Tryd.prog 16 #[.string ⟨#[112, 117, 110, 99, 116]⟩] w fun e w' => e = .returned (.tuple #[sv punctF, .bool true]) ∧ Below w.heap.size w w' :=
  class_punct (rg 65 90) (rg 97 122) (rg 48 57) (rg 33 126) (rangeTo 65 90 (by omega) (by omega)) (rangeTo 97 122 (by omega) (by omega)) (rangeTo 48 57 (by omega) (by omega)) (rangeTo 33 126 (by omega) (by omega))
    (fun i => !rg 33 126 i) punctF (fun w => not_c _ w) (fun w => not_c _ w) w

/-- **shown: true.** -/
theorem shown_c (w : World) (hw : Fit w) : Calls Tryd.prog 15 #[] w fun e w' => e = .returned (.bool true) ∧ Below w.heap.size w w' := by
  refine shown_go (inS ⟨#[97, 49]⟩ 2) (foldF (inS ⟨#[97, 49]⟩ 2)) punctF (fun w => of_c ⟨#[97, 49]⟩ (by decide) w) (fun w hw => fold_fit _ w hw) punct_c (fun w hw => ?_) (fun w => ?_) (fun w => ?_) (fun w => ?_) (fun w => ?_) w hw
  · have := bytes_fit (foldF (inS ⟨#[97, 49]⟩ 2)) w hw
    rwa [bytes_a1] at this
  · have := size_c (foldF (inS ⟨#[97, 49]⟩ 2)) w
    rwa [cnt_a1] at this
  · have := has_c (foldF (inS ⟨#[97, 49]⟩ 2)) 65 (by omega) w
    rwa [show foldF (inS ⟨#[97, 49]⟩ 2) 65 = true by decide +kernel] at this
  · have := has_c punctF 126 (by omega) w
    rwa [show punctF 126 = true by decide +kernel] at this
  · have := has_c punctF 122 (by omega) w
    rwa [show punctF 122 = false by decide +kernel] at this

end Go.Proofs.YtblogejljilcdaaDoor
