/- What is no pattern, or no place. -/
import Derived.Test.YtibkllialokdeaaGreatDoorJMdF
import Derived.Test.YtibkllialokdeaaGreatDoorJMbS
import Derived.Test.YtibkllialokdeaaGreatDoorJRxTr
import Derived.Test.YtibkllialokdeaaGreatDoorJRxW
set_option linter.unusedVariables false
set_option linter.unusedSimpArgs false
set_option maxRecDepth 100000
set_option maxHeartbeats 40000000
namespace Go.Proofs.YtibkllialokdeaaGreatDoor
open Go.RowKit Go.Maps Go.WideMaps
theorem Longest_bad (L : Value) (m : Bool) (s : List UInt8) (i : Int) (hbad : m = true → ¬ (0 ≤ i ∧ i ≤ (s.length : Int))) (w : World) (hM : ∀ W, Below w.heap.size w W → Calls Tryz.prog 30 #[L] W fun e w' => e = .returned (.bool m) ∧ Below W.heap.size W w') :
  Calls Tryz.prog 18 #[L, .string ⟨s.toArray⟩, .int .i64 i] w fun e w' => e = .returned (.tuple #[capV noC, .bool false]) ∧ Below w.heap.size w w' := by
 have HM := Lib.hid hM
 have HN := Lib.hid (fun w => mnone_c w)
 have HP := Lib.hid (fun (q : Int) W => isplace_c s q W)
 have hrz : VRow (w.alloc (.cells cZ 27)) w.heap.size 10 27 (fun _ => .complex .f64 0 0) := VRow.new w 10 27 (fun _ => .complex .f64 0 0)
 have hb0 : Below w.heap.size w (w.alloc (.cells cZ 27)) := (Below.refl _ w).alloc (Nat.le_refl _) _
 have HZ0 := Lib.hid (And.intro hrz hb0)
 have HB := Lib.hid hbad
 clear hM hrz hb0 hbad
 go_enter Tryz.func18, Tryz.ntmps18
 go_wp2_with fail
 refine (HM.out _ HZ0.out.2).mono ?_
 rintro e w1 ⟨rfl, hB1⟩
 have HW : Hid (VRow w1 w.heap.size 10 27 (fun _ => .complex .f64 0 0) ∧ Below w.heap.size w w1) := Lib.hid ⟨HZ0.out.1.below hB1 (by simp), HZ0.out.2.trans (hB1.mono (by simp))⟩
 clear hB1
 cases m with
 | false =>
  go_wp2_with fail
  refine (HN.out _).mono ?_
  rintro e wn ⟨rfl, hBn⟩
  have hrn := HW.out.1.below hBn HW.out.1.lt
  have lwn : w.heap.size < wn.heap.size := hrn.lt
  have lwm := HW.out.2.size
  obtain ⟨Z, hZ⟩ : ∃ Z : Cp, Z = fun _ => none := ⟨_, rfl⟩
  rw [← hZ]
  have HZ := Lib.hid hZ
  have HBN := Lib.hid (HW.out.2.trans (hBn.mono lwm))
  clear hBn hZ
  unfold capV
  obtain ⟨r0, r1, r2, r3, r4, r5, r6, r7, r8, r9, f0, f1, f2, f3, f4, f5, f6, f7, f8, f9⟩ := hrn.rf10
  obtain ⟨s0, s1, s2, s3, s4, s5, s6, s7, s8, s9⟩ := st10 (w := wn) (b := w.heap.size) hrn Z
  have HKS := Lib.hid (kp10 (w := wn) (b := w.heap.size) Z)
  have HSS := Lib.hid (And.intro s0 (And.intro s1 (And.intro s2 (And.intro s3 (And.intro s4 (And.intro s5 (And.intro s6 (And.intro s7 (And.intro s8 s9)))))))))
  clear hrn s0 s1 s2 s3 s4 s5 s6 s7 s8 s9
  go_wp2
  obtain ⟨s0, s1, s2, s3, s4, s5, s6, s7, s8, s9⟩ := HSS.out
  refine bodyPost_ret (v := .tuple #[.agg (cH Z), .bool false]) (by simp [results, Tryz.results18, go_sem, s0, s1, s2, s3, s4, s5, s6, s7, s8, s9]) rfl ⟨?_, HBN.out.trans (HKS.out.below (by omega) (fun i e => by subst e; exact Nat.le_refl _))⟩
  show Ending.returned (.tuple #[capV Z, .bool false]) = Ending.returned (.tuple #[capV noC, .bool false])
  rw [HZ.out]
  rfl
 | true =>
  have hb := HB.out rfl
  go_wp2_with fail
  refine (HP.out i _).mono ?_
  rintro e wp ⟨rfl, hwp⟩
  obtain rfl := hwp
  rw [show decide (0 ≤ i ∧ i ≤ (s.length : Int)) = false by simp; omega]
  clear hb
  go_wp2_with fail
  refine (HN.out _).mono ?_
  rintro e wn ⟨rfl, hBn⟩
  have hrn := HW.out.1.below hBn HW.out.1.lt
  have lwn : w.heap.size < wn.heap.size := hrn.lt
  have lwm := HW.out.2.size
  obtain ⟨Z, hZ⟩ : ∃ Z : Cp, Z = fun _ => none := ⟨_, rfl⟩
  rw [← hZ]
  have HZ := Lib.hid hZ
  have HBN := Lib.hid (HW.out.2.trans (hBn.mono lwm))
  clear hBn hZ
  unfold capV
  obtain ⟨r0, r1, r2, r3, r4, r5, r6, r7, r8, r9, f0, f1, f2, f3, f4, f5, f6, f7, f8, f9⟩ := hrn.rf10
  obtain ⟨s0, s1, s2, s3, s4, s5, s6, s7, s8, s9⟩ := st10 (w := wn) (b := w.heap.size) hrn Z
  have HKS := Lib.hid (kp10 (w := wn) (b := w.heap.size) Z)
  have HSS := Lib.hid (And.intro s0 (And.intro s1 (And.intro s2 (And.intro s3 (And.intro s4 (And.intro s5 (And.intro s6 (And.intro s7 (And.intro s8 s9)))))))))
  clear hrn s0 s1 s2 s3 s4 s5 s6 s7 s8 s9
  go_wp2
  obtain ⟨s0, s1, s2, s3, s4, s5, s6, s7, s8, s9⟩ := HSS.out
  refine bodyPost_ret (v := .tuple #[.agg (cH Z), .bool false]) (by simp [results, Tryz.results18, go_sem, s0, s1, s2, s3, s4, s5, s6, s7, s8, s9]) rfl ⟨?_, HBN.out.trans (HKS.out.below (by omega) (fun i e => by subst e; exact Nat.le_refl _))⟩
  show Ending.returned (.tuple #[capV Z, .bool false]) = Ending.returned (.tuple #[capV noC, .bool false])
  rw [HZ.out]
  rfl
theorem Whole_bad (L : Value) (m : Bool) (s : List UInt8) (i j : Int) (hbad : m = true → ¬ ((0 ≤ i ∧ i ≤ (s.length : Int)) ∧ (0 ≤ j ∧ j ≤ (s.length : Int)))) (w : World) (hM : ∀ W, Below w.heap.size w W → Calls Tryz.prog 30 #[L] W fun e w' => e = .returned (.bool m) ∧ Below W.heap.size W w') :
  Calls Tryz.prog 11 #[L, .string ⟨s.toArray⟩, .int .i64 i, .int .i64 j] w fun e w' => e = .returned (.tuple #[capV noC, .bool false]) ∧ Below w.heap.size w w' := by
 have HM := Lib.hid hM
 have HN := Lib.hid (fun w => mnone_c w)
 have HP := Lib.hid (fun (q : Int) W => isplace_c s q W)
 have hrz : VRow (w.alloc (.cells cZ 27)) w.heap.size 10 27 (fun _ => .complex .f64 0 0) := VRow.new w 10 27 (fun _ => .complex .f64 0 0)
 have hb0 : Below w.heap.size w (w.alloc (.cells cZ 27)) := (Below.refl _ w).alloc (Nat.le_refl _) _
 have HZ0 := Lib.hid (And.intro hrz hb0)
 have HB := Lib.hid hbad
 clear hM hrz hb0 hbad
 go_enter Tryz.func11, Tryz.ntmps11
 go_wp2_with fail
 refine (HM.out _ HZ0.out.2).mono ?_
 rintro e w1 ⟨rfl, hB1⟩
 have HW : Hid (VRow w1 w.heap.size 10 27 (fun _ => .complex .f64 0 0) ∧ Below w.heap.size w w1) := Lib.hid ⟨HZ0.out.1.below hB1 (by simp), HZ0.out.2.trans (hB1.mono (by simp))⟩
 clear hB1
 cases m with
 | false =>
  go_wp2_with fail
  refine (HN.out _).mono ?_
  rintro e wn ⟨rfl, hBn⟩
  have hrn := HW.out.1.below hBn HW.out.1.lt
  have lwn : w.heap.size < wn.heap.size := hrn.lt
  have lwm := HW.out.2.size
  obtain ⟨Z, hZ⟩ : ∃ Z : Cp, Z = fun _ => none := ⟨_, rfl⟩
  rw [← hZ]
  have HZ := Lib.hid hZ
  have HBN := Lib.hid (HW.out.2.trans (hBn.mono lwm))
  clear hBn hZ
  unfold capV
  obtain ⟨r0, r1, r2, r3, r4, r5, r6, r7, r8, r9, f0, f1, f2, f3, f4, f5, f6, f7, f8, f9⟩ := hrn.rf10
  obtain ⟨s0, s1, s2, s3, s4, s5, s6, s7, s8, s9⟩ := st10 (w := wn) (b := w.heap.size) hrn Z
  have HKS := Lib.hid (kp10 (w := wn) (b := w.heap.size) Z)
  have HSS := Lib.hid (And.intro s0 (And.intro s1 (And.intro s2 (And.intro s3 (And.intro s4 (And.intro s5 (And.intro s6 (And.intro s7 (And.intro s8 s9)))))))))
  clear hrn s0 s1 s2 s3 s4 s5 s6 s7 s8 s9
  go_wp2
  obtain ⟨s0, s1, s2, s3, s4, s5, s6, s7, s8, s9⟩ := HSS.out
  refine bodyPost_ret (v := .tuple #[.agg (cH Z), .bool false]) (by simp [results, Tryz.results11, go_sem, s0, s1, s2, s3, s4, s5, s6, s7, s8, s9]) rfl ⟨?_, HBN.out.trans (HKS.out.below (by omega) (fun i e => by subst e; exact Nat.le_refl _))⟩
  show Ending.returned (.tuple #[capV Z, .bool false]) = Ending.returned (.tuple #[capV noC, .bool false])
  rw [HZ.out]
  rfl
 | true =>
  have hb := HB.out rfl
  by_cases hpi : 0 ≤ i ∧ i ≤ (s.length : Int)
  ·have hpj : ¬ (0 ≤ j ∧ j ≤ (s.length : Int)) := fun q => hb ⟨hpi, q⟩
   go_wp2_with fail
   refine (HP.out i _).mono ?_
   rintro e wp ⟨rfl, hwp⟩
   obtain rfl := hwp
   rw [show decide (0 ≤ i ∧ i ≤ (s.length : Int)) = true by simp; omega]
   go_wp2_with fail
   refine (HP.out j _).mono ?_
   rintro e wp ⟨rfl, hwp⟩
   obtain rfl := hwp
   rw [show decide (0 ≤ j ∧ j ≤ (s.length : Int)) = false by simp; omega]
   clear hb hpi hpj
   go_wp2_with fail
   refine (HN.out _).mono ?_
   rintro e wn ⟨rfl, hBn⟩
   have hrn := HW.out.1.below hBn HW.out.1.lt
   have lwn : w.heap.size < wn.heap.size := hrn.lt
   have lwm := HW.out.2.size
   obtain ⟨Z, hZ⟩ : ∃ Z : Cp, Z = fun _ => none := ⟨_, rfl⟩
   rw [← hZ]
   have HZ := Lib.hid hZ
   have HBN := Lib.hid (HW.out.2.trans (hBn.mono lwm))
   clear hBn hZ
   unfold capV
   obtain ⟨r0, r1, r2, r3, r4, r5, r6, r7, r8, r9, f0, f1, f2, f3, f4, f5, f6, f7, f8, f9⟩ := hrn.rf10
   obtain ⟨s0, s1, s2, s3, s4, s5, s6, s7, s8, s9⟩ := st10 (w := wn) (b := w.heap.size) hrn Z
   have HKS := Lib.hid (kp10 (w := wn) (b := w.heap.size) Z)
   have HSS := Lib.hid (And.intro s0 (And.intro s1 (And.intro s2 (And.intro s3 (And.intro s4 (And.intro s5 (And.intro s6 (And.intro s7 (And.intro s8 s9)))))))))
   clear hrn s0 s1 s2 s3 s4 s5 s6 s7 s8 s9
   go_wp2
   obtain ⟨s0, s1, s2, s3, s4, s5, s6, s7, s8, s9⟩ := HSS.out
   refine bodyPost_ret (v := .tuple #[.agg (cH Z), .bool false]) (by simp [results, Tryz.results11, go_sem, s0, s1, s2, s3, s4, s5, s6, s7, s8, s9]) rfl ⟨?_, HBN.out.trans (HKS.out.below (by omega) (fun i e => by subst e; exact Nat.le_refl _))⟩
   show Ending.returned (.tuple #[capV Z, .bool false]) = Ending.returned (.tuple #[capV noC, .bool false])
   rw [HZ.out]
   rfl
  ·go_wp2_with fail
   refine (HP.out i _).mono ?_
   rintro e wp ⟨rfl, hwp⟩
   obtain rfl := hwp
   rw [show decide (0 ≤ i ∧ i ≤ (s.length : Int)) = false by simp; omega]
   clear hb hpi
   go_wp2_with fail
   refine (HN.out _).mono ?_
   rintro e wn ⟨rfl, hBn⟩
   have hrn := HW.out.1.below hBn HW.out.1.lt
   have lwn : w.heap.size < wn.heap.size := hrn.lt
   have lwm := HW.out.2.size
   obtain ⟨Z, hZ⟩ : ∃ Z : Cp, Z = fun _ => none := ⟨_, rfl⟩
   rw [← hZ]
   have HZ := Lib.hid hZ
   have HBN := Lib.hid (HW.out.2.trans (hBn.mono lwm))
   clear hBn hZ
   unfold capV
   obtain ⟨r0, r1, r2, r3, r4, r5, r6, r7, r8, r9, f0, f1, f2, f3, f4, f5, f6, f7, f8, f9⟩ := hrn.rf10
   obtain ⟨s0, s1, s2, s3, s4, s5, s6, s7, s8, s9⟩ := st10 (w := wn) (b := w.heap.size) hrn Z
   have HKS := Lib.hid (kp10 (w := wn) (b := w.heap.size) Z)
   have HSS := Lib.hid (And.intro s0 (And.intro s1 (And.intro s2 (And.intro s3 (And.intro s4 (And.intro s5 (And.intro s6 (And.intro s7 (And.intro s8 s9)))))))))
   clear hrn s0 s1 s2 s3 s4 s5 s6 s7 s8 s9
   go_wp2
   obtain ⟨s0, s1, s2, s3, s4, s5, s6, s7, s8, s9⟩ := HSS.out
   refine bodyPost_ret (v := .tuple #[.agg (cH Z), .bool false]) (by simp [results, Tryz.results11, go_sem, s0, s1, s2, s3, s4, s5, s6, s7, s8, s9]) rfl ⟨?_, HBN.out.trans (HKS.out.below (by omega) (fun i e => by subst e; exact Nat.le_refl _))⟩
   show Ending.returned (.tuple #[capV Z, .bool false]) = Ending.returned (.tuple #[capV noC, .bool false])
   rw [HZ.out]
   rfl
theorem Ends_bad (L : Value) (m : Bool) (s : List UInt8) (i : Int) (hbad : m = true → ¬ (0 ≤ i ∧ i ≤ (s.length : Int))) (w : World) (hM : ∀ W, Below w.heap.size w W → Calls Tryz.prog 30 #[L] W fun e w' => e = .returned (.bool m) ∧ Below W.heap.size W w') :
  Calls Tryz.prog 21 #[L, .string ⟨s.toArray⟩, .int .i64 i] w fun e w' => e = .returned (.slice none 0 0) ∧ Below w.heap.size w w' := by
 have HM := Lib.hid hM
 have HP := Lib.hid (fun (q : Int) W => isplace_c s q W)
 have HB := Lib.hid hbad
 clear hM hbad
 go_enter Tryz.func21, Tryz.ntmps21
 go_wp2_with fail
 refine (HM.out _ (Below.refl _ _)).mono ?_
 rintro e w1 ⟨rfl, hB1⟩
 cases m with
 | false =>
  go_wp2
  go_ret
  exact ⟨rfl, hB1⟩
 | true =>
  have hb := HB.out rfl
  go_wp2_with fail
  refine (HP.out i _).mono ?_
  rintro e wp ⟨rfl, hwp⟩
  obtain rfl := hwp
  rw [show decide (0 ≤ i ∧ i ≤ (s.length : Int)) = false by simp; omega]
  clear hb
  go_wp2
  go_ret
  exact ⟨rfl, hB1⟩
end Go.Proofs.YtibkllialokdeaaGreatDoor
namespace Go.Proofs.YtibkllialokdeaaGreatDoor
open Go.RowKit Go.Maps Go.WideMaps
def ndA : Nd := ⟨1, 0, 8589934592, 0, 0, 0, 0, 0, 0, 0⟩
def ndB : Nd := ⟨1, 0, 17179869184, 0, 0, 0, 0, 0, 0, 0⟩
def tS : T := .two 4 (.group 1 (.times 0 (-1) (.leaf ndA))) (.times 0 (-1) (.group 2 (.two 4 (.leaf ndA) (.leaf ndB))))
def sS : List UInt8 := [97, 97, 98]
def xS : List Nd := [ndA, ⟨6, 0, 0, 0, 0, 0, 0, 0, -1, 0⟩, ⟨7, 0, 0, 0, 0, 1, 0, 0, 0, 1⟩, ndA, ndB, ⟨4, 0, 0, 0, 0, 3, 4, 0, 0, 0⟩, ⟨7, 0, 0, 0, 0, 5, 0, 0, 0, 2⟩, ⟨6, 0, 0, 0, 0, 6, 0, 0, -1, 0⟩, ⟨4, 0, 0, 0, 0, 2, 7, 0, 0, 0⟩]
theorem shown_long : lgR sS tS 0 = some 3 := by decide +kernel
theorem shown_caps : wholeC sS tS 0 3 1 = some (0, 1) ∧ wholeC sS tS 0 3 2 = some (1, 3) := by decide +kernel
theorem shown_ends : endsL (fun j => (semT sS tS).ends 0 0 noC j) 3 0 = [0, 1, 2, 3] := by decide +kernel
theorem fitsS : ∀ (i : Nat) (x : Nd), xS[i]? = some x → x.Fits := fun i x h => by
 have : x ∈ xS := List.mem_of_getElem? h
 simp only [xS, List.mem_cons, List.not_mem_nil, or_false] at this
 rcases this with rfl | rfl | rfl | rfl | rfl | rfl | rfl | rfl | rfl <;> exact ⟨by decide, by decide, by decide, by decide, by decide, by decide, by decide, by decide, by decide, by decide⟩
theorem patS : IsPat xS tS := by
 refine ⟨?_, ?_, rfl, by decide, ?_, ?_, by decide +kernel⟩
 ·exact ⟨.inl rfl, ⟨by decide +kernel, by decide +kernel, ⟨by decide +kernel, .inr (.inl rfl)⟩⟩, by decide +kernel, by decide +kernel, .inl rfl, ⟨by decide +kernel, .inr (.inl rfl)⟩, ⟨by decide +kernel, .inr (.inl rfl)⟩⟩
 ·exact ⟨⟨⟨rfl, rfl⟩, rfl⟩, ⟨⟨⟨rfl, rfl, rfl⟩, rfl⟩, rfl⟩, rfl⟩
 ·intro i x h
  have : x ∈ xS := List.mem_of_getElem? h
  simp only [xS, List.mem_cons, List.not_mem_nil, or_false] at this
  rcases this with rfl | rfl | rfl | rfl | rfl | rfl | rfl | rfl | rfl <;> decide +kernel
 ·intro i x h
  have : x ∈ xS := List.mem_of_getElem? h
  simp only [xS, List.mem_cons, List.not_mem_nil, or_false] at this
  rcases this with rfl | rfl | rfl | rfl | rfl | rfl | rfl | rfl | rfl
  ·exact trivial
  ·exact .inl (by decide +kernel)
  ·exact trivial
  ·exact trivial
  ·exact trivial
  ·exact ⟨by decide +kernel, by decide +kernel, by decide +kernel⟩
  ·exact trivial
  ·exact .inr (.inl (by decide +kernel))
  ·exact ⟨by decide +kernel, by decide +kernel, by decide +kernel⟩
end Go.Proofs.YtibkllialokdeaaGreatDoor
namespace Go.Proofs.YtibkllialokdeaaGreatDoor
open Go.RowKit Go.Lib Go.Maps Go.WideMaps
theorem bytes_sa : (bytesOf ndA.set).data.toList = [97] := by decide +kernel
theorem bytes_sb : (bytesOf ndB.set).data.toList = [98] := by decide +kernel
theorem itoa_s0 : itoa 0 = [48] := by
 unfold itoa
 rw [if_neg (by omega)]
 exact decDigits_one (by decide)
theorem itoa_sm : itoa (-1) = [45, 49] := by
 unfold itoa
 rw [if_pos (by omega)]
 show 45 :: decDigits 1 = _
 rw [decDigits_one (by omega)]
 rfl
theorem hex_sa : hexl [97] = [54, 49] := by decide +kernel
theorem hex_sb : hexl [98] = [54, 50] := by decide +kernel
def pS : List UInt8 := [38, 40, 42, 48, 44, 45, 49, 59, 91, 54, 49, 93, 41, 42, 48, 44, 45, 49, 59, 40, 38, 91, 54, 49, 93, 91, 54, 50, 93, 41]
theorem textS : text tS = pS := by
 have ka : leafText ndA = [91, 54, 49, 93] := by
  unfold leafText
  rw [if_neg (by decide), if_pos (by rfl), bytes_sa, hex_sa]; rfl
 have kb : leafText ndB = [91, 54, 50, 93] := by
  unfold leafText
  rw [if_neg (by decide), if_pos (by rfl), bytes_sb, hex_sb]; rfl
 simp only [tS, text, ka, kb, itoa_s0, itoa_sm]
 rfl
theorem rdxS : rdx pS = xS := by rw [← textS]; exact rdx_text patS fitsS
theorem parseS (w : World) (hw : Fit4 w) :
  Calls Tryz.prog 31 #[.string ⟨#[38, 40, 42, 48, 44, 45, 49, 59, 91, 54, 49, 93, 41, 42, 48, 44, 45, 49, 59, 40, 38, 91, 54, 49, 93, 91, 54, 50, 93, 41]⟩] w fun e w' => (∃ g cap, e = .returned (.tuple #[.slice (some ⟨g, 0, none⟩) 9 cap, .int .i64 0]) ∧ w.heap.size ≤ g ∧ NodesAt w' g 0 xS) ∧ Below w.heap.size w w' := by
 have := parse_yes pS (by decide) tS (by rw [rdxS]; exact patS) textS w hw
 rw [rdxS] at this
 exact this
theorem whole_cap {s : List UInt8} {t : T} (h : SOk s.length (semT s t)) {i j : Nat} (hij : i ≤ j) (hj : j ≤ s.length) : CapOk s.length (wholeC s t i j) := fun g a b e => by
 unfold wholeC at e
 split at e
 ·cases e; exact ⟨hij, hj⟩
 ·exact h.leave_cap (had := fun _ => none) (fun g a b e => by cases e) hij hj g a b e
theorem shown6_c (w : World) (hw : Fit4 w) (hT : TabAt 0 Lib.deBruijn64tab w) (h0 : 0 < w.heap.size) :
  Calls Tryz.prog 10 #[] w fun e w' => e = .returned (.bool true) ∧ Below w.heap.size w w' := by
 have HP := Lib.hid (parseS w hw)
 have HT := Lib.hid hT
 have HLG := Lib.hid (fun (g cap : Nat) (W : World) (hx : NodesAt W g 0 xS) (hT : TabAt 0 Lib.deBruijn64tab W) (h0 : 0 < W.heap.size) => (Longest_c g 0 cap sS xS tS patS fitsS (by decide) (fun h => absurd h (by decide)) 0 (Nat.zero_le _) W hx hT h0 : _))
 have HEN := Lib.hid (fun (g cap : Nat) (W : World) (hx : NodesAt W g 0 xS) (hT : TabAt 0 Lib.deBruijn64tab W) (h0 : 0 < W.heap.size) => (Ends_c g 0 cap sS xS tS patS fitsS (by decide) (fun h => absurd h (by decide)) 0 (Nat.zero_le _) W hx hT h0 : _))
 obtain ⟨Z, hZ⟩ : ∃ Z, Z = wholeC sS tS 0 3 := ⟨_, rfl⟩
 have hz1 : cutO sS (Z 1) = [97] := by rw [hZ, shown_caps.1]; rfl
 have hz2 : cutO sS (Z 2) = [97, 98] := by rw [hZ, shown_caps.2]; rfl
 have hzc : CapOk sS.length Z := by rw [hZ]; exact whole_cap (sem_ok sS tS (lok_mok tS (ok_lok tS patS.1)).1) (by omega) (by decide)
 have hlg : lgC sS tS 0 = Z := by unfold lgC; rw [shown_long, hZ]
 have hlr : (lgR sS tS 0).isSome = true := by rw [shown_long]; rfl
 have HG1 : Hid (∀ W, Calls Tryz.prog 14 #[.string ⟨#[97, 97, 98]⟩, capV Z, .int .i64 1] W fun e w' => e = .returned (.string ⟨#[97]⟩) ∧ Below W.heap.size W w') := Lib.hid (fun W => by
  have := mgroup_c sS (by decide) Z hzc 1 W
  rw [if_pos ⟨by omega, by omega⟩, show (1 : Int).toNat = 1 from rfl, hz1] at this
  exact this)
 have HG2 : Hid (∀ W, Calls Tryz.prog 14 #[.string ⟨#[97, 97, 98]⟩, capV Z, .int .i64 2] W fun e w' => e = .returned (.string ⟨#[97, 98]⟩) ∧ Below W.heap.size W w') := Lib.hid (fun W => by
  have := mgroup_c sS (by decide) Z hzc 2 W
  rw [if_pos ⟨by omega, by omega⟩, show (2 : Int).toNat = 2 from rfl, hz2] at this
  exact this)
 have HLR := Lib.hid (And.intro hlg hlr)
 clear hT hZ hz1 hz2 hzc hlg hlr
 go_enter Tryz.func10, Tryz.ntmps10
 go_wp2_with fail
 refine HP.out.mono ?_
 rintro e w1 ⟨⟨g, cap, rfl, hg, hx⟩, hB1⟩
 have lw1 := hB1.size
 have hT1 := tab_below HT.out hB1 h0
 have hcall := HLG.out g cap w1 hx hT1 (by omega)
 rw [HLR.out.1, HLR.out.2] at hcall
 have HCALL := Lib.hid hcall
 have H1 := Lib.hid (And.intro hx (And.intro hT1 hB1))
 have lg := hx.lt
 clear hcall hx hT1 hB1
 go_wp2_with fail
 refine HCALL.out.mono ?_
 rintro e w2 ⟨rfl, hB2⟩
 have lw2 := hB2.size
 have hb3 := Blk.new w2 (cH Z) 27
 have hB3 : Below w1.heap.size w1 (w2.alloc (.cells (cH Z) 27)) := hB2.alloc lw2 _
 have HE := Lib.hid (HEN.out g cap (w2.alloc (.cells (cH Z) 27)) (H1.out.1.below hB3 lg) (tab_below H1.out.2.1 hB3 (by omega)) (by simp))
 have H3 := Lib.hid (And.intro hb3 hB3)
 clear hB2 hb3 hB3 HCALL
 unfold capV
 go_wp2_with fail
 refine HE.out.mono ?_
 rintro e w4 ⟨val, rfl, hown, hB4⟩
 rw [show endsL (fun j => (semT sS tS).ends 0 0 noC j) sS.length 0 = [0, 1, 2, 3] from shown_ends] at hown
 have lz := hB4.size
 rw [World.size_alloc] at lz
 obtain ⟨g5, cap5, hval⟩ : ∃ g5 cap5, val = .slice (some ⟨g5, 0, none⟩) 4 cap5 := by
  rcases hown.2 with ⟨_, q⟩ | ⟨g5, cap5, cur, q, _⟩
  ·exact absurd q (by decide)
  ·exact ⟨g5, cap5, q⟩
 subst hval
 have hb4 := H3.out.1.below hB4 (by simp)
 have hB14 : Below w.heap.size w w4 := H1.out.2.2.trans ((H3.out.2.trans (hB4.mono (by simp; omega))).mono lw1)
 have k0 : w4.cell? ⟨w2.heap.size, 0, none⟩ = some (spV (Z 0)) := capBlk.at (had := Z) hb4 0 (by decide)
 have k1 : w4.cell? ⟨w2.heap.size, 1, none⟩ = some (spV (Z 1)) := capBlk.at (had := Z) hb4 1 (by decide)
 have k2 : w4.cell? ⟨w2.heap.size, 2, none⟩ = some (spV (Z 2)) := capBlk.at (had := Z) hb4 2 (by decide)
 have k3 : w4.cell? ⟨w2.heap.size, 3, none⟩ = some (spV (Z 3)) := capBlk.at (had := Z) hb4 3 (by decide)
 have k4 : w4.cell? ⟨w2.heap.size, 4, none⟩ = some (spV (Z 4)) := capBlk.at (had := Z) hb4 4 (by decide)
 have k5 : w4.cell? ⟨w2.heap.size, 5, none⟩ = some (spV (Z 5)) := capBlk.at (had := Z) hb4 5 (by decide)
 have k6 : w4.cell? ⟨w2.heap.size, 6, none⟩ = some (spV (Z 6)) := capBlk.at (had := Z) hb4 6 (by decide)
 have k7 : w4.cell? ⟨w2.heap.size, 7, none⟩ = some (spV (Z 7)) := capBlk.at (had := Z) hb4 7 (by decide)
 have k8 : w4.cell? ⟨w2.heap.size, 8, none⟩ = some (spV (Z 8)) := capBlk.at (had := Z) hb4 8 (by decide)
 have k9 : w4.cell? ⟨w2.heap.size, 9, none⟩ = some (spV (Z 9)) := capBlk.at (had := Z) hb4 9 (by decide)
 have H4 := Lib.hid (And.intro hb4 hB14)
 clear hb4 hB14 hown hB4 HE
 have HG1 := HG1
 unfold capV at HG1 HG2
 go_wp2_with fail
 refine (HG1.out _).mono ?_
 rintro e w5 ⟨rfl, hB5⟩
 have hb5 := H4.out.1.below hB5 (by omega)
 have lw5 := hB5.size
 have H5 := Lib.hid (And.intro hb5 (H4.out.2.trans (hB5.mono (by omega))))
 clear k0 k1 k2 k3 k4 k5 k6 k7 k8 k9 hB5 hb5
 have k0 : w5.cell? ⟨w2.heap.size, 0, none⟩ = some (spV (Z 0)) := capBlk.at (had := Z) H5.out.1 0 (by decide)
 have k1 : w5.cell? ⟨w2.heap.size, 1, none⟩ = some (spV (Z 1)) := capBlk.at (had := Z) H5.out.1 1 (by decide)
 have k2 : w5.cell? ⟨w2.heap.size, 2, none⟩ = some (spV (Z 2)) := capBlk.at (had := Z) H5.out.1 2 (by decide)
 have k3 : w5.cell? ⟨w2.heap.size, 3, none⟩ = some (spV (Z 3)) := capBlk.at (had := Z) H5.out.1 3 (by decide)
 have k4 : w5.cell? ⟨w2.heap.size, 4, none⟩ = some (spV (Z 4)) := capBlk.at (had := Z) H5.out.1 4 (by decide)
 have k5 : w5.cell? ⟨w2.heap.size, 5, none⟩ = some (spV (Z 5)) := capBlk.at (had := Z) H5.out.1 5 (by decide)
 have k6 : w5.cell? ⟨w2.heap.size, 6, none⟩ = some (spV (Z 6)) := capBlk.at (had := Z) H5.out.1 6 (by decide)
 have k7 : w5.cell? ⟨w2.heap.size, 7, none⟩ = some (spV (Z 7)) := capBlk.at (had := Z) H5.out.1 7 (by decide)
 have k8 : w5.cell? ⟨w2.heap.size, 8, none⟩ = some (spV (Z 8)) := capBlk.at (had := Z) H5.out.1 8 (by decide)
 have k9 : w5.cell? ⟨w2.heap.size, 9, none⟩ = some (spV (Z 9)) := capBlk.at (had := Z) H5.out.1 9 (by decide)
 go_wp2_with fail
 refine (HG2.out _).mono ?_
 rintro e w6 ⟨rfl, hB6⟩
 have H6 := Lib.hid (H5.out.2.trans (hB6.mono (by omega)))
 clear hB6
 go_wp2
 go_ret
 exact ⟨rfl, H6.out⟩
end Go.Proofs.YtibkllialokdeaaGreatDoor
namespace Go.Proofs.YtibkllialokdeaaGreatDoor
open Go.RowKit Go.Maps Go.WideMaps
def kcnt (xs : List Nd) (K : Int) : Nat → Nat
 | 0 => 0
 | k + 1 => kcnt xs K k + (match xs[k]? with | some x => if x.kind = K then 1 else 0 | none => 0)
theorem kcnt_le (xs : List Nd) (K : Int) : ∀ k, kcnt xs K k ≤ k
 | 0 => Nat.le_refl _
 | k + 1 => by
  have := kcnt_le xs K k
  rw [kcnt]
  split
  ·split <;> omega
  ·omega
def bdR (xs : List Nd) (s : List UInt8) : Bool := decide (xs.length ≤ 24) && decide (s.length ≤ 9) && (decide (kcnt xs 8 xs.length = 0) || (decide (kcnt xs 6 xs.length ≤ 2) && decide (s.length ≤ 6)))
theorem kcnt_yes {xs : List Nd} {K : Int} {k : Nat} {x : Nd} (hx : xs[k]? = some x) (h : x.kind = K) : kcnt xs K (k + 1) = kcnt xs K k + 1 := by rw [kcnt, hx]; simp [h]
theorem kcnt_no {xs : List Nd} {K : Int} {k : Nat} {x : Nd} (hx : xs[k]? = some x) (h : x.kind ≠ K) : kcnt xs K (k + 1) = kcnt xs K k := by rw [kcnt, hx]; simp [h]
theorem bounded_c (p : Option Addr) (n cap : Nat) (xs : List Nd) (s : List UInt8) (w : World) (h : Nodes w p n xs) :
  Calls Tryz.prog 9 #[.slice p n cap, .string ⟨s.toArray⟩] w fun e w' => e = .returned (.bool (bdR xs s)) ∧ w' = w := by
 have hlen := h.len
 have hsm := h.small
 have hsz : (⟨s.toArray⟩ : ByteArray).size = s.length := by simp [ByteArray.size]
 obtain ⟨R, hR⟩ : ∃ R, R = bdR xs s := ⟨_, rfl⟩
 rw [← hR]
 unfold bdR at hR
 rw [hlen] at hR
 have HR := Lib.hid hR
 have HN := Lib.hid h
 have HLN := Lib.hid hlen
 clear hR h hlen
 go_enter Tryz.func9, Tryz.ntmps9
 go_wp2
 go_loopw [5, 6, 7] (fun tv fv iv wr => ∃ k : Nat, k ≤ n ∧ iv = .int .i64 k ∧ tv = .int .i64 (kcnt xs 6 k : Nat) ∧ fv = .int .i64 (kcnt xs 8 k : Nat) ∧ wr = w) (fun _ _ iv _ => n - (RowKit.intOf iv).toNat)
 case atStart => exact ⟨0, Nat.zero_le _, rfl, rfl, rfl, rfl⟩
 case round =>
  obtain ⟨k, hk, rfl, rfl, rfl, rfl⟩ := hrel
  have l6 := kcnt_le xs 6 k
  have l8 := kcnt_le xs 8 k
  by_cases hlt : k < n
  ·obtain ⟨b, o, rfl⟩ := HN.out.ptr (by omega)
   obtain ⟨x, hx⟩ : ∃ x, xs[k]? = some x := ⟨xs[k]'(by rw [HLN.out]; exact hlt), List.getElem?_eq_getElem _⟩
   have c0 : wr.cell? ⟨b, o + k * 10, none⟩ = some (.int .i64 x.kind) := (HN.out.at' (by omega) b o rfl).cell k x hx 0 _ rfl
   have HXX := Lib.hid hx
   clear hx
   by_cases h6 : x.kind = 6
   ·have b6 : (x.kind == 6) = true := by simpa using h6
    have b8 : (x.kind == 8) = false := by rw [h6]; rfl
    have n8 : ¬ x.kind = 8 := by omega
    have e6 := Lib.hid (kcnt_yes HXX.out h6)
    have e8 := Lib.hid (kcnt_no HXX.out n8)
    go_wp2
    go_roundw
    case rel => exact ⟨k + 1, by omega, by simp, by rw [e6.out]; simp, by rw [e8.out], by first | rfl | trivial⟩
    case measure => (simp [RowKit.intOf]) <;> omega
   ·have b6 : (x.kind == 6) = false := by rw [beq_eq_false_iff_ne]; exact h6
    have e6 := Lib.hid (kcnt_no HXX.out h6)
    by_cases h8 : x.kind = 8
    ·have b8 : (x.kind == 8) = true := by simpa using h8
     have e8 := Lib.hid (kcnt_yes HXX.out h8)
     go_wp2
     go_roundw
     case rel => exact ⟨k + 1, by omega, by simp, by rw [e6.out], by rw [e8.out]; simp, by first | rfl | trivial⟩
     case measure => (simp [RowKit.intOf]) <;> omega
    ·have b8 : (x.kind == 8) = false := by rw [beq_eq_false_iff_ne]; exact h8
     have e8 := Lib.hid (kcnt_no HXX.out h8)
     go_wp2
     go_roundw
     case rel => exact ⟨k + 1, by omega, by simp, by rw [e6.out], by rw [e8.out], by first | rfl | trivial⟩
     case measure => (simp [RowKit.intOf]) <;> omega
  ·obtain rfl : k = n := by omega
   have HL6 := Lib.hid l6
   clear l6 l8 hlt
   by_cases q1 : k ≤ 24
   ·by_cases q2 : s.length ≤ 9
    ·by_cases q3 : kcnt xs 8 k = 0
     ·have i1 : (k : Int) ≤ 24 := by omega
      have i2 : (s.length : Int) ≤ 9 := by omega
      have i3 : ((kcnt xs 8 k : Nat) : Int) = 0 := by omega
      go_wp2
      go_ret
      exact ⟨by rw [HR.out]; simp [q1, q2, q3], rfl⟩
     ·have i1 : (k : Int) ≤ 24 := by omega
      have i2 : (s.length : Int) ≤ 9 := by omega
      have i3 : ((((kcnt xs 8 k : Nat) : Int)) == 0) = false := by rw [beq_eq_false_iff_ne]; omega
      by_cases q4 : kcnt xs 6 k ≤ 2
      ·have i4 : ((kcnt xs 6 k : Nat) : Int) ≤ 2 := by omega
       by_cases q5 : s.length ≤ 6
       ·have i5 : (s.length : Int) ≤ 6 := by omega
        go_wp2
        go_ret
        exact ⟨by rw [HR.out]; simp [q1, q2, q3, q4, q5], rfl⟩
       ·have i5 : ¬ (s.length : Int) ≤ 6 := by omega
        go_wp2
        go_ret
        exact ⟨by rw [HR.out]; simp [q1, q2, q3, q4, q5], rfl⟩
      ·have i4 : ¬ ((kcnt xs 6 k : Nat) : Int) ≤ 2 := by omega
       go_wp2
       go_ret
       exact ⟨by rw [HR.out]; simp [q1, q2, q3, q4], rfl⟩
    ·have i1 : (k : Int) ≤ 24 := by omega
     have i2 : ¬ (s.length : Int) ≤ 9 := by omega
     go_wp2
     go_ret
     exact ⟨by rw [HR.out]; simp [q1, q2], rfl⟩
   ·have i1 : ¬ (k : Int) ≤ 24 := by omega
    go_wp2
    go_ret
    exact ⟨by rw [HR.out]; simp [q1], rfl⟩
end Go.Proofs.YtibkllialokdeaaGreatDoor
namespace Go.Proofs.YtibkllialokdeaaGreatDoor
open Go.RowKit Go.Lib
theorem endsL_step {f : Nat → Bool} {n j : Nat} (hj : j ≤ n) : endsL f n j = if f j = true then j :: endsL f n (j + 1) else endsL f n (j + 1) := by
 unfold endsL
 rw [show n + 1 - j = (n + 1 - (j + 1)) + 1 by omega, endsF]
theorem endsL_nil {f : Nat → Bool} {n j : Nat} (hj : n < j) : endsL f n j = [] := by
 unfold endsL
 rw [show n + 1 - j = 0 by omega, endsF]
theorem endsF_ge {f : Nat → Bool} : ∀ (d k : Nat), ∀ x ∈ endsF f d k, k ≤ x ∧ x < k + d
 | 0, k, x, h => by cases h
 | d + 1, k, x, h => by
  rw [endsF] at h
  split at h
  ·rcases List.mem_cons.1 h with rfl | h
   ·omega
   ·have := endsF_ge d (k + 1) x h; omega
  ·have := endsF_ge d (k + 1) x h; omega
theorem endsL_ge {f : Nat → Bool} {n k x : Nat} (h : x ∈ endsL f n k) : k ≤ x ∧ x ≤ n := by
 have := endsF_ge _ _ x h; omega
def atR (f : Nat → Bool) (n k j : Nat) : Nat := (endsL f n k).length - (endsL f n (max k j)).length
theorem endsL_suffix {f : Nat → Bool} {n : Nat} : ∀ (m k : Nat), endsL f n (k + m) <:+ endsL f n k
 | 0, k => List.suffix_refl _
 | m + 1, k => by
  refine List.IsSuffix.trans ?_ (endsL_suffix m k)
  by_cases h : k + m ≤ n
  ·rw [endsL_step h]
   split
   ·exact ⟨[k + m], rfl⟩
   ·exact List.suffix_refl _
  ·rw [endsL_nil (by omega)]; exact List.nil_suffix
theorem atR_drop {f : Nat → Bool} {n k j : Nat} : (endsL f n k).drop (atR f n k j) = endsL f n (max k j) := by
 have h := endsL_suffix (f := f) (n := n) (max k j - k) k
 rw [show k + (max k j - k) = max k j by omega] at h
 exact (List.suffix_iff_eq_drop.1 h).symm
theorem atR_le {f : Nat → Bool} {n k j : Nat} : atR f n k j ≤ (endsL f n k).length := Nat.sub_le _ _
theorem atR_zero {f : Nat → Bool} {n k : Nat} : atR f n k 0 = 0 := by unfold atR; simp
theorem atR_end {f : Nat → Bool} {n k : Nat} : atR f n k (n + 1) = (endsL f n k).length := by
 unfold atR
 rw [endsL_nil (j := max k (n + 1)) (by omega)]; simp
theorem atR_yes {f : Nat → Bool} {n k j : Nat} (hj : j ≤ n) (h : (decide (k ≤ j) && f j) = true) : (endsL f n k)[atR f n k j]? = some j ∧ atR f n k (j + 1) = atR f n k j + 1 := by
 rw [Bool.and_eq_true, decide_eq_true_iff] at h
 have hm : max k j = j := by omega
 have hm' : max k (j + 1) = j + 1 := by omega
 have hs := endsL_step (f := f) hj
 rw [if_pos h.2] at hs
 have hd := atR_drop (f := f) (n := n) (k := k) (j := j)
 rw [hm, hs] at hd
 have hl := congrArg List.length hd
 simp only [List.length_drop, List.length_cons] at hl
 refine ⟨?_, ?_⟩
 ·have := congrArg (fun l => l[0]?) hd
  simpa using this
 ·unfold atR at hl ⊢
  rw [hm'] 
  rw [hm] at hl ⊢
  have := (endsL_suffix (f := f) (n := n) (j + 1 - k) k).length_le
  rw [show k + (j + 1 - k) = j + 1 by omega] at this
  rw [hs] at hl ⊢
  simp only [List.length_cons] at hl ⊢
  omega
theorem atR_no {f : Nat → Bool} {n k j : Nat} (hj : j ≤ n) (h : (decide (k ≤ j) && f j) = false) : (∀ x, (endsL f n k)[atR f n k j]? = some x → x ≠ j) ∧ atR f n k (j + 1) = atR f n k j := by
 have hd := atR_drop (f := f) (n := n) (k := k) (j := j)
 by_cases hk : k ≤ j
 ·have hf : f j = false := by simpa [hk] using h
  have hm : max k j = j := by omega
  have hm' : max k (j + 1) = j + 1 := by omega
  have hs := endsL_step (f := f) hj
  rw [if_neg (by rw [hf]; simp)] at hs
  rw [hm, hs] at hd
  refine ⟨fun x hx e => ?_, ?_⟩
  ·have := congrArg (fun l => l[0]?) hd
   simp only [List.getElem?_drop, Nat.add_zero] at this
   rw [hx] at this
   have hmem := List.mem_of_getElem? this.symm
   have := endsL_ge hmem
   omega
  ·unfold atR; rw [hm, hm', hs]
 ·have hm : max k j = k := by omega
  have hm' : max k (j + 1) = k := by omega
  refine ⟨fun x hx e => ?_, ?_⟩
  ·have := endsL_ge (List.mem_of_getElem? hx)
   omega
  ·unfold atR; rw [hm, hm']
theorem ends_last {f : Nat → Bool} {k : Nat} : ∀ n : Nat, greatest k f n = (endsL f n k).getLast?
 | 0 => by
  unfold greatest
  by_cases hk : k = 0
  ·subst hk
   rw [endsL_step (Nat.le_refl 0), endsL_nil (by omega)]
   by_cases h : f 0 = true
   ·simp [h]
   ·simp [h]
  ·rw [if_neg (fun h => hk h.1), endsL_nil (by omega)]; rfl
 | n + 1 => by
  have ih := ends_last (f := f) (k := k) n
  have hext : ∀ d k, endsF f (d + 1) k = endsF f d k ++ (if f (k + d) = true then [k + d] else []) := by
   intro d
   induction d with
   | zero => intro k; rw [endsF, endsF, endsF]; simp
   | succ d ih2 =>
    intro k
    rw [endsF, ih2 (k + 1)]
    conv => rhs; rw [endsF]
    rw [show k + 1 + d = k + (d + 1) by omega]
    split <;> simp
  unfold greatest
  by_cases hk : k ≤ n + 1
  ·have e : endsL f (n + 1) k = endsL f n k ++ (if f (n + 1) = true then [n + 1] else []) := by
    unfold endsL
    rw [show n + 1 + 1 - k = (n + 1 - k) + 1 by omega, hext, show k + (n + 1 - k) = n + 1 by omega]
   rw [e]
   by_cases h : f (n + 1) = true
   ·rw [if_pos ⟨hk, h⟩, if_pos h]; simp
   ·rw [if_neg (fun q => h q.2), if_neg h, ih]; simp
  ·rw [if_neg (fun q => hk q.1), ih, endsL_nil (by omega), endsL_nil (by omega)]
end Go.Proofs.YtibkllialokdeaaGreatDoor
namespace Go.Proofs.YtibkllialokdeaaGreatDoor
open Go.RowKit Go.Lib
structure EachF (n k : Nat) (L : List Nat) (Z : Nat → Bool) (A : Nat → Nat) (C : Cp) (R : Bool) : Prop where
 le : ∀ j, A j ≤ L.length
 zero : A 0 = 0
 all : A (n + 1) = L.length
 yes : ∀ j, j ≤ n → Z j = true → L[A j]? = some j ∧ A (j + 1) = A j + 1
 no : ∀ j, j ≤ n → Z j = false → (∀ x, L[A j]? = some x → x ≠ j) ∧ A (j + 1) = A j
 some : R = decide (0 < L.length)
 last : 0 < L.length → ∃ m, L[L.length - 1]? = Option.some m ∧ C 0 = Option.some (k, m) ∧ k ≤ m ∧ m ≤ n
 len : L.length ≤ n + 1
theorem each_none (n k : Nat) : EachF n k [] (fun _ => false) (fun _ => 0) noC false :=
 ⟨fun _ => Nat.le_refl _, rfl, rfl, fun _ _ h => (by cases h), fun _ _ _ => ⟨fun x h => (by simp at h), rfl⟩, rfl, fun h => absurd h (by simp), (by simp)⟩
theorem each_pat (s : List UInt8) (t : T) (k : Nat) (hk : k ≤ s.length) : EachF s.length k (endsL (fun j => (semT s t).ends k 0 noC j) s.length k) (fun j => whR s t k j) (fun j => atR (fun j => (semT s t).ends k 0 noC j) s.length k j) (lgC s t k) (lgR s t k).isSome := by
 have hl : lgR s t k = (endsL (fun j => (semT s t).ends k 0 noC j) s.length k).getLast? := ends_last _
 refine ⟨fun _ => atR_le, atR_zero, atR_end, fun j hj h => atR_yes hj h, fun j hj h => atR_no hj h, ?_, ?_, ?_⟩
 ·rw [hl]
  cases h : endsL (fun j => (semT s t).ends k 0 noC j) s.length k with
  | nil => rfl
  | cons a l => simp [List.getLast?_cons]
 ·intro h
  have hne : endsL (fun j => (semT s t).ends k 0 noC j) s.length k ≠ [] := List.ne_nil_of_length_pos h
  refine ⟨(endsL (fun j => (semT s t).ends k 0 noC j) s.length k).getLast hne, ?_, ?_, ?_⟩
  ·rw [← List.getLast?_eq_getElem?]; exact List.getLast?_eq_some_getLast hne
  ·unfold lgC
   rw [hl, List.getLast?_eq_some_getLast hne]
   rfl
  ·exact endsL_ge (List.getLast_mem hne)
 ·unfold endsL
  have := endsF_len (f := fun j => (semT s t).ends k 0 noC j) (s.length + 1 - k) k
  omega
structure InF (n i G : Nat) (C : Cp) : Prop where
 whole : ∃ m, C 0 = some (i, m) ∧ i ≤ m ∧ m ≤ n ∧ ∀ g, 1 ≤ g → C g = none ∨ ∃ a b, C g = some (a, b) ∧ i ≤ a ∧ a ≤ b ∧ b ≤ m
 more : ∀ g, 1 ≤ g → G < g → C g = none
theorem ever_le (s : List UInt8) (xs : List Nd) (t : T) (hp : IsPat xs t) (g : Nat) (e : (semT s t).ever g = true) : g ≤ gcnt xs xs.length := by
 obtain ⟨u, hu⟩ := Option.isSome_iff_exists.1 hp.2.2.2.2.2.2
 have h1 := ever_num s t _ u hu g e
 have h2 := num_fst t _ u hu
 have h3 := (tree_nodes t 0 hp.1 hp.2.1).1
 rw [Nat.zero_add, hp.2.2.1] at h3
 have h4 : gcnt xs 0 = 0 := rfl
 simp only at h1 h2
 omega
theorem in_pat (s : List UInt8) (xs : List Nd) (t : T) (hp : IsPat xs t) (i : Nat) (hi : i ≤ s.length) (h : (lgR s t i).isSome = true) : InF s.length i (gcnt xs xs.length) (lgC s t i) := by
 obtain ⟨m, hm⟩ := Option.isSome_iff_exists.1 h
 have hg := greatest_some hm
 have hS := sem_ok s t (lok_mok t (ok_lok t hp.1)).1
 have hc : ∀ g, 1 ≤ g → lgC s t i g = (semT s t).leave i m noC g := fun g hg => by
  unfold lgC wholeC
  rw [hm]
  simp only
  rw [if_neg (by omega)]
  rfl
 refine ⟨⟨m, ?_, hg.1, hg.2.1, fun g h1 => ?_⟩, fun g h1 h2 => ?_⟩
 ·unfold lgC wholeC; rw [hm]; rfl
 ·rw [hc g h1]
  rcases (sem_in s t).leave hg.1 noC g with q | q
  ·exact .inl q
  ·exact .inr q
 ·rw [hc g h1]
  have he : (semT s t).ever g = false := by
   cases e : (semT s t).ever g with
   | false => rfl
   | true => exact absurd (ever_le s xs t hp g e) (by omega)
  rw [hS.leave_keep he]; rfl
end Go.Proofs.YtibkllialokdeaaGreatDoor
