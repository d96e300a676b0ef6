/- Class, of the names upper, lower, digit, graph, alpha, alnum, blank. -/
import Derived.Test.YtkmfncajdkdenaaGreatDoorYRxU
set_option linter.unusedVariables false
set_option linter.unusedSimpArgs false
set_option maxRecDepth 100000
set_option maxHeartbeats 40000000
namespace Go.Proofs.YtkmfncajdkdenaaGreatDoor
open Go.RowKit
theorem class_upper (u l d g : Nat → Bool) (hu : RangeTo 65 90 u) (hl : RangeTo 97 122 l) (hd : RangeTo 48 57 d) (hg : RangeTo 33 126 g)  (w : World) :
  Calls Tryz.prog 92 #[.string ⟨#[117, 112, 112, 101, 114]⟩] w fun e w' => e = .returned (.tuple #[sv (u), .bool true]) ∧ Below w.heap.size w w' := by
 unfold RangeTo at *
 have HU := Lib.hid hu; have HL := Lib.hid hl; have HD := Lib.hid hd; have HG := Lib.hid hg
 clear hu hl hd hg
 go_enter Tryz.func92, Tryz.ntmps92
 go_wp2_with fail
 refine (HU.out _).mono ?_
 rintro e w1 ⟨rfl, hB1⟩
 go_wp2_with fail
 refine (HL.out _).mono ?_
 rintro e w2 ⟨rfl, hB2⟩
 go_wp2_with fail
 refine (HD.out _).mono ?_
 rintro e w3 ⟨rfl, hB3⟩
 have r0 := Four.new w 25 (.int .u64 0) (.int .u64 0) (.int .u64 0) (.int .u64 0)
 have r1 := r0.below hB1 r0.lt
 have r2 := r1.below hB2 r1.lt
 have r3 := r2.below hB3 r2.lt
 have hw3 : Below w.heap.size w w3 := (((Below.refl _ w).alloc (Nat.le_refl _) _).trans (hB1.mono (by simp))).trans ((hB2.mono (Nat.le_of_lt r1.lt)).trans (hB3.mono (Nat.le_of_lt r2.lt)))
 have hlt3 := r3.lt
 clear r0 r1 r2 hB1 hB2 hB3
 simp only [sv]
 go_wp2_with fail
 refine (HG.out _).mono ?_
 rintro e w4 ⟨rfl, hB4⟩
 have su := ((Four.new w3 25 (.int .u64 (wd u 0)) (.int .u64 (wd u 1)) (.int .u64 (wd u 2)) (.int .u64 (wd u 3))).alloc (.cells #[.int .u64 (wd l 0), .int .u64 (wd l 1), .int .u64 (wd l 2), .int .u64 (wd l 3)] 25)).alloc (.cells #[.int .u64 (wd d 0), .int .u64 (wd d 1), .int .u64 (wd d 2), .int .u64 (wd d 3)] 25)
 have sl := (Four.new (w3.alloc (.cells #[.int .u64 (wd u 0), .int .u64 (wd u 1), .int .u64 (wd u 2), .int .u64 (wd u 3)] 25)) 25 (.int .u64 (wd l 0)) (.int .u64 (wd l 1)) (.int .u64 (wd l 2)) (.int .u64 (wd l 3))).alloc (.cells #[.int .u64 (wd d 0), .int .u64 (wd d 1), .int .u64 (wd d 2), .int .u64 (wd d 3)] 25)
 have sd := Four.new ((w3.alloc (.cells #[.int .u64 (wd u 0), .int .u64 (wd u 1), .int .u64 (wd u 2), .int .u64 (wd u 3)] 25)).alloc (.cells #[.int .u64 (wd l 0), .int .u64 (wd l 1), .int .u64 (wd l 2), .int .u64 (wd l 3)] 25)) 25 (.int .u64 (wd d 0)) (.int .u64 (wd d 1)) (.int .u64 (wd d 2)) (.int .u64 (wd d 3))
 have r4 := ((((r3.alloc (.cells #[.int .u64 (wd u 0), .int .u64 (wd u 1), .int .u64 (wd u 2), .int .u64 (wd u 3)] 25)).alloc (.cells #[.int .u64 (wd l 0), .int .u64 (wd l 1), .int .u64 (wd l 2), .int .u64 (wd l 3)] 25)).alloc (.cells #[.int .u64 (wd d 0), .int .u64 (wd d 1), .int .u64 (wd d 2), .int .u64 (wd d 3)] 25)).below hB4 (by simp; omega))
 have su4 := su.below hB4 su.lt
 have sl4 := sl.below hB4 sl.lt
 have sd4 := sd.below hB4 sd.lt
 rw [World.size_alloc] at sl4
 rw [World.size_alloc, World.size_alloc] at sd4
 have hw4 : Below w.heap.size w w4 := (((hw3.alloc (by omega) _).alloc (by simp; omega) _).alloc (by simp; omega) _).trans (hB4.mono (by simp; omega))
 have hlt4 := r4.lt
 have hlu4 := su4.lt
 have hll4 := sl4.lt
 have hld4 := sd4.lt
 clear su sl sd r3 hB4
 have r4c0 := r4.c0
 have r4c1 := r4.c1
 have r4c2 := r4.c2
 have r4c3 := r4.c3
 have su4c0 := su4.c0
 have su4c1 := su4.c1
 have su4c2 := su4.c2
 have su4c3 := su4.c3
 have sl4c0 := sl4.c0
 have sl4c1 := sl4.c1
 have sl4c2 := sl4.c2
 have sl4c3 := sl4.c3
 have sd4c0 := sd4.c0
 have sd4c1 := sd4.c1
 have sd4c2 := sd4.c2
 have sd4c3 := sd4.c3
 have r4f0 := r4.fz 0
 have r4f1 := r4.fz 1
 have r4f2 := r4.fz 2
 have r4f3 := r4.fz 3
 have sg5 := Four.new w4 25 (.int .u64 (wd g 0)) (.int .u64 (wd g 1)) (.int .u64 (wd g 2)) (.int .u64 (wd g 3))
 have hw5 : Below w.heap.size w (w4.alloc (.cells #[.int .u64 (wd g 0), .int .u64 (wd g 1), .int .u64 (wd g 2), .int .u64 (wd g 3)] 25)) := hw4.alloc (by omega) _
 have r5 := r4.alloc (.cells #[.int .u64 (wd g 0), .int .u64 (wd g 1), .int .u64 (wd g 2), .int .u64 (wd g 3)] 25)
 have r5c0 := r5.c0
 have r5c1 := r5.c1
 have r5c2 := r5.c2
 have r5c3 := r5.c3
 have su5 := su4.alloc (.cells #[.int .u64 (wd g 0), .int .u64 (wd g 1), .int .u64 (wd g 2), .int .u64 (wd g 3)] 25)
 have su5c0 := su5.c0
 have su5c1 := su5.c1
 have su5c2 := su5.c2
 have su5c3 := su5.c3
 have sl5 := sl4.alloc (.cells #[.int .u64 (wd g 0), .int .u64 (wd g 1), .int .u64 (wd g 2), .int .u64 (wd g 3)] 25)
 have sl5c0 := sl5.c0
 have sl5c1 := sl5.c1
 have sl5c2 := sl5.c2
 have sl5c3 := sl5.c3
 have sd5 := sd4.alloc (.cells #[.int .u64 (wd g 0), .int .u64 (wd g 1), .int .u64 (wd g 2), .int .u64 (wd g 3)] 25)
 have sd5c0 := sd5.c0
 have sd5c1 := sd5.c1
 have sd5c2 := sd5.c2
 have sd5c3 := sd5.c3
 have r5f0 := r5.fz 0
 have r5f1 := r5.fz 1
 have r5f2 := r5.fz 2
 have r5f3 := r5.fz 3
 simp only [sv]
 go_wp2
 have q := (FourS.set r4 (u)).alloc (.cells #[.int .u64 (wd g 0), .int .u64 (wd g 1), .int .u64 (wd g 2), .int .u64 (wd g 3)] 25)
 have qc0 := q.c0; have qc1 := q.c1; have qc2 := q.c2; have qc3 := q.c3
 refine bodyPost_ret (v := .tuple #[sv (u), .bool true]) (by simp [results, Tryz.results92, go_sem, qc0, qc1, qc2, qc3, sv]) rfl ⟨rfl, (Below.set4 hw4 (by omega) _ _ _ _).alloc (by simp [World.setCell]; omega) _⟩
theorem class_lower (u l d g : Nat → Bool) (hu : RangeTo 65 90 u) (hl : RangeTo 97 122 l) (hd : RangeTo 48 57 d) (hg : RangeTo 33 126 g)  (w : World) :
  Calls Tryz.prog 92 #[.string ⟨#[108, 111, 119, 101, 114]⟩] w fun e w' => e = .returned (.tuple #[sv (l), .bool true]) ∧ Below w.heap.size w w' := by
 unfold RangeTo at *
 have HU := Lib.hid hu; have HL := Lib.hid hl; have HD := Lib.hid hd; have HG := Lib.hid hg
 clear hu hl hd hg
 go_enter Tryz.func92, Tryz.ntmps92
 go_wp2_with fail
 refine (HU.out _).mono ?_
 rintro e w1 ⟨rfl, hB1⟩
 go_wp2_with fail
 refine (HL.out _).mono ?_
 rintro e w2 ⟨rfl, hB2⟩
 go_wp2_with fail
 refine (HD.out _).mono ?_
 rintro e w3 ⟨rfl, hB3⟩
 have r0 := Four.new w 25 (.int .u64 0) (.int .u64 0) (.int .u64 0) (.int .u64 0)
 have r1 := r0.below hB1 r0.lt
 have r2 := r1.below hB2 r1.lt
 have r3 := r2.below hB3 r2.lt
 have hw3 : Below w.heap.size w w3 := (((Below.refl _ w).alloc (Nat.le_refl _) _).trans (hB1.mono (by simp))).trans ((hB2.mono (Nat.le_of_lt r1.lt)).trans (hB3.mono (Nat.le_of_lt r2.lt)))
 have hlt3 := r3.lt
 clear r0 r1 r2 hB1 hB2 hB3
 simp only [sv]
 go_wp2_with fail
 refine (HG.out _).mono ?_
 rintro e w4 ⟨rfl, hB4⟩
 have su := ((Four.new w3 25 (.int .u64 (wd u 0)) (.int .u64 (wd u 1)) (.int .u64 (wd u 2)) (.int .u64 (wd u 3))).alloc (.cells #[.int .u64 (wd l 0), .int .u64 (wd l 1), .int .u64 (wd l 2), .int .u64 (wd l 3)] 25)).alloc (.cells #[.int .u64 (wd d 0), .int .u64 (wd d 1), .int .u64 (wd d 2), .int .u64 (wd d 3)] 25)
 have sl := (Four.new (w3.alloc (.cells #[.int .u64 (wd u 0), .int .u64 (wd u 1), .int .u64 (wd u 2), .int .u64 (wd u 3)] 25)) 25 (.int .u64 (wd l 0)) (.int .u64 (wd l 1)) (.int .u64 (wd l 2)) (.int .u64 (wd l 3))).alloc (.cells #[.int .u64 (wd d 0), .int .u64 (wd d 1), .int .u64 (wd d 2), .int .u64 (wd d 3)] 25)
 have sd := Four.new ((w3.alloc (.cells #[.int .u64 (wd u 0), .int .u64 (wd u 1), .int .u64 (wd u 2), .int .u64 (wd u 3)] 25)).alloc (.cells #[.int .u64 (wd l 0), .int .u64 (wd l 1), .int .u64 (wd l 2), .int .u64 (wd l 3)] 25)) 25 (.int .u64 (wd d 0)) (.int .u64 (wd d 1)) (.int .u64 (wd d 2)) (.int .u64 (wd d 3))
 have r4 := ((((r3.alloc (.cells #[.int .u64 (wd u 0), .int .u64 (wd u 1), .int .u64 (wd u 2), .int .u64 (wd u 3)] 25)).alloc (.cells #[.int .u64 (wd l 0), .int .u64 (wd l 1), .int .u64 (wd l 2), .int .u64 (wd l 3)] 25)).alloc (.cells #[.int .u64 (wd d 0), .int .u64 (wd d 1), .int .u64 (wd d 2), .int .u64 (wd d 3)] 25)).below hB4 (by simp; omega))
 have su4 := su.below hB4 su.lt
 have sl4 := sl.below hB4 sl.lt
 have sd4 := sd.below hB4 sd.lt
 rw [World.size_alloc] at sl4
 rw [World.size_alloc, World.size_alloc] at sd4
 have hw4 : Below w.heap.size w w4 := (((hw3.alloc (by omega) _).alloc (by simp; omega) _).alloc (by simp; omega) _).trans (hB4.mono (by simp; omega))
 have hlt4 := r4.lt
 have hlu4 := su4.lt
 have hll4 := sl4.lt
 have hld4 := sd4.lt
 clear su sl sd r3 hB4
 have r4c0 := r4.c0
 have r4c1 := r4.c1
 have r4c2 := r4.c2
 have r4c3 := r4.c3
 have su4c0 := su4.c0
 have su4c1 := su4.c1
 have su4c2 := su4.c2
 have su4c3 := su4.c3
 have sl4c0 := sl4.c0
 have sl4c1 := sl4.c1
 have sl4c2 := sl4.c2
 have sl4c3 := sl4.c3
 have sd4c0 := sd4.c0
 have sd4c1 := sd4.c1
 have sd4c2 := sd4.c2
 have sd4c3 := sd4.c3
 have r4f0 := r4.fz 0
 have r4f1 := r4.fz 1
 have r4f2 := r4.fz 2
 have r4f3 := r4.fz 3
 have sg5 := Four.new w4 25 (.int .u64 (wd g 0)) (.int .u64 (wd g 1)) (.int .u64 (wd g 2)) (.int .u64 (wd g 3))
 have hw5 : Below w.heap.size w (w4.alloc (.cells #[.int .u64 (wd g 0), .int .u64 (wd g 1), .int .u64 (wd g 2), .int .u64 (wd g 3)] 25)) := hw4.alloc (by omega) _
 have r5 := r4.alloc (.cells #[.int .u64 (wd g 0), .int .u64 (wd g 1), .int .u64 (wd g 2), .int .u64 (wd g 3)] 25)
 have r5c0 := r5.c0
 have r5c1 := r5.c1
 have r5c2 := r5.c2
 have r5c3 := r5.c3
 have su5 := su4.alloc (.cells #[.int .u64 (wd g 0), .int .u64 (wd g 1), .int .u64 (wd g 2), .int .u64 (wd g 3)] 25)
 have su5c0 := su5.c0
 have su5c1 := su5.c1
 have su5c2 := su5.c2
 have su5c3 := su5.c3
 have sl5 := sl4.alloc (.cells #[.int .u64 (wd g 0), .int .u64 (wd g 1), .int .u64 (wd g 2), .int .u64 (wd g 3)] 25)
 have sl5c0 := sl5.c0
 have sl5c1 := sl5.c1
 have sl5c2 := sl5.c2
 have sl5c3 := sl5.c3
 have sd5 := sd4.alloc (.cells #[.int .u64 (wd g 0), .int .u64 (wd g 1), .int .u64 (wd g 2), .int .u64 (wd g 3)] 25)
 have sd5c0 := sd5.c0
 have sd5c1 := sd5.c1
 have sd5c2 := sd5.c2
 have sd5c3 := sd5.c3
 have r5f0 := r5.fz 0
 have r5f1 := r5.fz 1
 have r5f2 := r5.fz 2
 have r5f3 := r5.fz 3
 simp only [sv]
 go_wp2
 have q := (FourS.set r4 (l)).alloc (.cells #[.int .u64 (wd g 0), .int .u64 (wd g 1), .int .u64 (wd g 2), .int .u64 (wd g 3)] 25)
 have qc0 := q.c0; have qc1 := q.c1; have qc2 := q.c2; have qc3 := q.c3
 refine bodyPost_ret (v := .tuple #[sv (l), .bool true]) (by simp [results, Tryz.results92, go_sem, qc0, qc1, qc2, qc3, sv]) rfl ⟨rfl, (Below.set4 hw4 (by omega) _ _ _ _).alloc (by simp [World.setCell]; omega) _⟩
theorem class_digit (u l d g : Nat → Bool) (hu : RangeTo 65 90 u) (hl : RangeTo 97 122 l) (hd : RangeTo 48 57 d) (hg : RangeTo 33 126 g)  (w : World) :
  Calls Tryz.prog 92 #[.string ⟨#[100, 105, 103, 105, 116]⟩] w fun e w' => e = .returned (.tuple #[sv (d), .bool true]) ∧ Below w.heap.size w w' := by
 unfold RangeTo at *
 have HU := Lib.hid hu; have HL := Lib.hid hl; have HD := Lib.hid hd; have HG := Lib.hid hg
 clear hu hl hd hg
 go_enter Tryz.func92, Tryz.ntmps92
 go_wp2_with fail
 refine (HU.out _).mono ?_
 rintro e w1 ⟨rfl, hB1⟩
 go_wp2_with fail
 refine (HL.out _).mono ?_
 rintro e w2 ⟨rfl, hB2⟩
 go_wp2_with fail
 refine (HD.out _).mono ?_
 rintro e w3 ⟨rfl, hB3⟩
 have r0 := Four.new w 25 (.int .u64 0) (.int .u64 0) (.int .u64 0) (.int .u64 0)
 have r1 := r0.below hB1 r0.lt
 have r2 := r1.below hB2 r1.lt
 have r3 := r2.below hB3 r2.lt
 have hw3 : Below w.heap.size w w3 := (((Below.refl _ w).alloc (Nat.le_refl _) _).trans (hB1.mono (by simp))).trans ((hB2.mono (Nat.le_of_lt r1.lt)).trans (hB3.mono (Nat.le_of_lt r2.lt)))
 have hlt3 := r3.lt
 clear r0 r1 r2 hB1 hB2 hB3
 simp only [sv]
 go_wp2_with fail
 refine (HG.out _).mono ?_
 rintro e w4 ⟨rfl, hB4⟩
 have su := ((Four.new w3 25 (.int .u64 (wd u 0)) (.int .u64 (wd u 1)) (.int .u64 (wd u 2)) (.int .u64 (wd u 3))).alloc (.cells #[.int .u64 (wd l 0), .int .u64 (wd l 1), .int .u64 (wd l 2), .int .u64 (wd l 3)] 25)).alloc (.cells #[.int .u64 (wd d 0), .int .u64 (wd d 1), .int .u64 (wd d 2), .int .u64 (wd d 3)] 25)
 have sl := (Four.new (w3.alloc (.cells #[.int .u64 (wd u 0), .int .u64 (wd u 1), .int .u64 (wd u 2), .int .u64 (wd u 3)] 25)) 25 (.int .u64 (wd l 0)) (.int .u64 (wd l 1)) (.int .u64 (wd l 2)) (.int .u64 (wd l 3))).alloc (.cells #[.int .u64 (wd d 0), .int .u64 (wd d 1), .int .u64 (wd d 2), .int .u64 (wd d 3)] 25)
 have sd := Four.new ((w3.alloc (.cells #[.int .u64 (wd u 0), .int .u64 (wd u 1), .int .u64 (wd u 2), .int .u64 (wd u 3)] 25)).alloc (.cells #[.int .u64 (wd l 0), .int .u64 (wd l 1), .int .u64 (wd l 2), .int .u64 (wd l 3)] 25)) 25 (.int .u64 (wd d 0)) (.int .u64 (wd d 1)) (.int .u64 (wd d 2)) (.int .u64 (wd d 3))
 have r4 := ((((r3.alloc (.cells #[.int .u64 (wd u 0), .int .u64 (wd u 1), .int .u64 (wd u 2), .int .u64 (wd u 3)] 25)).alloc (.cells #[.int .u64 (wd l 0), .int .u64 (wd l 1), .int .u64 (wd l 2), .int .u64 (wd l 3)] 25)).alloc (.cells #[.int .u64 (wd d 0), .int .u64 (wd d 1), .int .u64 (wd d 2), .int .u64 (wd d 3)] 25)).below hB4 (by simp; omega))
 have su4 := su.below hB4 su.lt
 have sl4 := sl.below hB4 sl.lt
 have sd4 := sd.below hB4 sd.lt
 rw [World.size_alloc] at sl4
 rw [World.size_alloc, World.size_alloc] at sd4
 have hw4 : Below w.heap.size w w4 := (((hw3.alloc (by omega) _).alloc (by simp; omega) _).alloc (by simp; omega) _).trans (hB4.mono (by simp; omega))
 have hlt4 := r4.lt
 have hlu4 := su4.lt
 have hll4 := sl4.lt
 have hld4 := sd4.lt
 clear su sl sd r3 hB4
 have r4c0 := r4.c0
 have r4c1 := r4.c1
 have r4c2 := r4.c2
 have r4c3 := r4.c3
 have su4c0 := su4.c0
 have su4c1 := su4.c1
 have su4c2 := su4.c2
 have su4c3 := su4.c3
 have sl4c0 := sl4.c0
 have sl4c1 := sl4.c1
 have sl4c2 := sl4.c2
 have sl4c3 := sl4.c3
 have sd4c0 := sd4.c0
 have sd4c1 := sd4.c1
 have sd4c2 := sd4.c2
 have sd4c3 := sd4.c3
 have r4f0 := r4.fz 0
 have r4f1 := r4.fz 1
 have r4f2 := r4.fz 2
 have r4f3 := r4.fz 3
 have sg5 := Four.new w4 25 (.int .u64 (wd g 0)) (.int .u64 (wd g 1)) (.int .u64 (wd g 2)) (.int .u64 (wd g 3))
 have hw5 : Below w.heap.size w (w4.alloc (.cells #[.int .u64 (wd g 0), .int .u64 (wd g 1), .int .u64 (wd g 2), .int .u64 (wd g 3)] 25)) := hw4.alloc (by omega) _
 have r5 := r4.alloc (.cells #[.int .u64 (wd g 0), .int .u64 (wd g 1), .int .u64 (wd g 2), .int .u64 (wd g 3)] 25)
 have r5c0 := r5.c0
 have r5c1 := r5.c1
 have r5c2 := r5.c2
 have r5c3 := r5.c3
 have su5 := su4.alloc (.cells #[.int .u64 (wd g 0), .int .u64 (wd g 1), .int .u64 (wd g 2), .int .u64 (wd g 3)] 25)
 have su5c0 := su5.c0
 have su5c1 := su5.c1
 have su5c2 := su5.c2
 have su5c3 := su5.c3
 have sl5 := sl4.alloc (.cells #[.int .u64 (wd g 0), .int .u64 (wd g 1), .int .u64 (wd g 2), .int .u64 (wd g 3)] 25)
 have sl5c0 := sl5.c0
 have sl5c1 := sl5.c1
 have sl5c2 := sl5.c2
 have sl5c3 := sl5.c3
 have sd5 := sd4.alloc (.cells #[.int .u64 (wd g 0), .int .u64 (wd g 1), .int .u64 (wd g 2), .int .u64 (wd g 3)] 25)
 have sd5c0 := sd5.c0
 have sd5c1 := sd5.c1
 have sd5c2 := sd5.c2
 have sd5c3 := sd5.c3
 have r5f0 := r5.fz 0
 have r5f1 := r5.fz 1
 have r5f2 := r5.fz 2
 have r5f3 := r5.fz 3
 simp only [sv]
 go_wp2
 have q := (FourS.set r4 (d)).alloc (.cells #[.int .u64 (wd g 0), .int .u64 (wd g 1), .int .u64 (wd g 2), .int .u64 (wd g 3)] 25)
 have qc0 := q.c0; have qc1 := q.c1; have qc2 := q.c2; have qc3 := q.c3
 refine bodyPost_ret (v := .tuple #[sv (d), .bool true]) (by simp [results, Tryz.results92, go_sem, qc0, qc1, qc2, qc3, sv]) rfl ⟨rfl, (Below.set4 hw4 (by omega) _ _ _ _).alloc (by simp [World.setCell]; omega) _⟩
theorem class_graph (u l d g : Nat → Bool) (hu : RangeTo 65 90 u) (hl : RangeTo 97 122 l) (hd : RangeTo 48 57 d) (hg : RangeTo 33 126 g)  (w : World) :
  Calls Tryz.prog 92 #[.string ⟨#[103, 114, 97, 112, 104]⟩] w fun e w' => e = .returned (.tuple #[sv (g), .bool true]) ∧ Below w.heap.size w w' := by
 unfold RangeTo at *
 have HU := Lib.hid hu; have HL := Lib.hid hl; have HD := Lib.hid hd; have HG := Lib.hid hg
 clear hu hl hd hg
 go_enter Tryz.func92, Tryz.ntmps92
 go_wp2_with fail
 refine (HU.out _).mono ?_
 rintro e w1 ⟨rfl, hB1⟩
 go_wp2_with fail
 refine (HL.out _).mono ?_
 rintro e w2 ⟨rfl, hB2⟩
 go_wp2_with fail
 refine (HD.out _).mono ?_
 rintro e w3 ⟨rfl, hB3⟩
 have r0 := Four.new w 25 (.int .u64 0) (.int .u64 0) (.int .u64 0) (.int .u64 0)
 have r1 := r0.below hB1 r0.lt
 have r2 := r1.below hB2 r1.lt
 have r3 := r2.below hB3 r2.lt
 have hw3 : Below w.heap.size w w3 := (((Below.refl _ w).alloc (Nat.le_refl _) _).trans (hB1.mono (by simp))).trans ((hB2.mono (Nat.le_of_lt r1.lt)).trans (hB3.mono (Nat.le_of_lt r2.lt)))
 have hlt3 := r3.lt
 clear r0 r1 r2 hB1 hB2 hB3
 simp only [sv]
 go_wp2_with fail
 refine (HG.out _).mono ?_
 rintro e w4 ⟨rfl, hB4⟩
 have su := ((Four.new w3 25 (.int .u64 (wd u 0)) (.int .u64 (wd u 1)) (.int .u64 (wd u 2)) (.int .u64 (wd u 3))).alloc (.cells #[.int .u64 (wd l 0), .int .u64 (wd l 1), .int .u64 (wd l 2), .int .u64 (wd l 3)] 25)).alloc (.cells #[.int .u64 (wd d 0), .int .u64 (wd d 1), .int .u64 (wd d 2), .int .u64 (wd d 3)] 25)
 have sl := (Four.new (w3.alloc (.cells #[.int .u64 (wd u 0), .int .u64 (wd u 1), .int .u64 (wd u 2), .int .u64 (wd u 3)] 25)) 25 (.int .u64 (wd l 0)) (.int .u64 (wd l 1)) (.int .u64 (wd l 2)) (.int .u64 (wd l 3))).alloc (.cells #[.int .u64 (wd d 0), .int .u64 (wd d 1), .int .u64 (wd d 2), .int .u64 (wd d 3)] 25)
 have sd := Four.new ((w3.alloc (.cells #[.int .u64 (wd u 0), .int .u64 (wd u 1), .int .u64 (wd u 2), .int .u64 (wd u 3)] 25)).alloc (.cells #[.int .u64 (wd l 0), .int .u64 (wd l 1), .int .u64 (wd l 2), .int .u64 (wd l 3)] 25)) 25 (.int .u64 (wd d 0)) (.int .u64 (wd d 1)) (.int .u64 (wd d 2)) (.int .u64 (wd d 3))
 have r4 := ((((r3.alloc (.cells #[.int .u64 (wd u 0), .int .u64 (wd u 1), .int .u64 (wd u 2), .int .u64 (wd u 3)] 25)).alloc (.cells #[.int .u64 (wd l 0), .int .u64 (wd l 1), .int .u64 (wd l 2), .int .u64 (wd l 3)] 25)).alloc (.cells #[.int .u64 (wd d 0), .int .u64 (wd d 1), .int .u64 (wd d 2), .int .u64 (wd d 3)] 25)).below hB4 (by simp; omega))
 have su4 := su.below hB4 su.lt
 have sl4 := sl.below hB4 sl.lt
 have sd4 := sd.below hB4 sd.lt
 rw [World.size_alloc] at sl4
 rw [World.size_alloc, World.size_alloc] at sd4
 have hw4 : Below w.heap.size w w4 := (((hw3.alloc (by omega) _).alloc (by simp; omega) _).alloc (by simp; omega) _).trans (hB4.mono (by simp; omega))
 have hlt4 := r4.lt
 have hlu4 := su4.lt
 have hll4 := sl4.lt
 have hld4 := sd4.lt
 clear su sl sd r3 hB4
 have r4c0 := r4.c0
 have r4c1 := r4.c1
 have r4c2 := r4.c2
 have r4c3 := r4.c3
 have su4c0 := su4.c0
 have su4c1 := su4.c1
 have su4c2 := su4.c2
 have su4c3 := su4.c3
 have sl4c0 := sl4.c0
 have sl4c1 := sl4.c1
 have sl4c2 := sl4.c2
 have sl4c3 := sl4.c3
 have sd4c0 := sd4.c0
 have sd4c1 := sd4.c1
 have sd4c2 := sd4.c2
 have sd4c3 := sd4.c3
 have r4f0 := r4.fz 0
 have r4f1 := r4.fz 1
 have r4f2 := r4.fz 2
 have r4f3 := r4.fz 3
 have sg5 := Four.new w4 25 (.int .u64 (wd g 0)) (.int .u64 (wd g 1)) (.int .u64 (wd g 2)) (.int .u64 (wd g 3))
 have hw5 : Below w.heap.size w (w4.alloc (.cells #[.int .u64 (wd g 0), .int .u64 (wd g 1), .int .u64 (wd g 2), .int .u64 (wd g 3)] 25)) := hw4.alloc (by omega) _
 have r5 := r4.alloc (.cells #[.int .u64 (wd g 0), .int .u64 (wd g 1), .int .u64 (wd g 2), .int .u64 (wd g 3)] 25)
 have r5c0 := r5.c0
 have r5c1 := r5.c1
 have r5c2 := r5.c2
 have r5c3 := r5.c3
 have su5 := su4.alloc (.cells #[.int .u64 (wd g 0), .int .u64 (wd g 1), .int .u64 (wd g 2), .int .u64 (wd g 3)] 25)
 have su5c0 := su5.c0
 have su5c1 := su5.c1
 have su5c2 := su5.c2
 have su5c3 := su5.c3
 have sl5 := sl4.alloc (.cells #[.int .u64 (wd g 0), .int .u64 (wd g 1), .int .u64 (wd g 2), .int .u64 (wd g 3)] 25)
 have sl5c0 := sl5.c0
 have sl5c1 := sl5.c1
 have sl5c2 := sl5.c2
 have sl5c3 := sl5.c3
 have sd5 := sd4.alloc (.cells #[.int .u64 (wd g 0), .int .u64 (wd g 1), .int .u64 (wd g 2), .int .u64 (wd g 3)] 25)
 have sd5c0 := sd5.c0
 have sd5c1 := sd5.c1
 have sd5c2 := sd5.c2
 have sd5c3 := sd5.c3
 have r5f0 := r5.fz 0
 have r5f1 := r5.fz 1
 have r5f2 := r5.fz 2
 have r5f3 := r5.fz 3
 simp only [sv]
 go_wp2
 have q := (FourS.set r4 (g)).alloc (.cells #[.int .u64 (wd g 0), .int .u64 (wd g 1), .int .u64 (wd g 2), .int .u64 (wd g 3)] 25)
 have qc0 := q.c0; have qc1 := q.c1; have qc2 := q.c2; have qc3 := q.c3
 refine bodyPost_ret (v := .tuple #[sv (g), .bool true]) (by simp [results, Tryz.results92, go_sem, qc0, qc1, qc2, qc3, sv]) rfl ⟨rfl, (Below.set4 hw4 (by omega) _ _ _ _).alloc (by simp [World.setCell]; omega) _⟩
theorem class_alpha (u l d g : Nat → Bool) (hu : RangeTo 65 90 u) (hl : RangeTo 97 122 l) (hd : RangeTo 48 57 d) (hg : RangeTo 33 126 g)  (w : World) :
  Calls Tryz.prog 92 #[.string ⟨#[97, 108, 112, 104, 97]⟩] w fun e w' => e = .returned (.tuple #[sv (fun i => u i || l i), .bool true]) ∧ Below w.heap.size w w' := by
 unfold RangeTo at *
 have HU := Lib.hid hu; have HL := Lib.hid hl; have HD := Lib.hid hd; have HG := Lib.hid hg
 clear hu hl hd hg
 go_enter Tryz.func92, Tryz.ntmps92
 go_wp2_with fail
 refine (HU.out _).mono ?_
 rintro e w1 ⟨rfl, hB1⟩
 go_wp2_with fail
 refine (HL.out _).mono ?_
 rintro e w2 ⟨rfl, hB2⟩
 go_wp2_with fail
 refine (HD.out _).mono ?_
 rintro e w3 ⟨rfl, hB3⟩
 have r0 := Four.new w 25 (.int .u64 0) (.int .u64 0) (.int .u64 0) (.int .u64 0)
 have r1 := r0.below hB1 r0.lt
 have r2 := r1.below hB2 r1.lt
 have r3 := r2.below hB3 r2.lt
 have hw3 : Below w.heap.size w w3 := (((Below.refl _ w).alloc (Nat.le_refl _) _).trans (hB1.mono (by simp))).trans ((hB2.mono (Nat.le_of_lt r1.lt)).trans (hB3.mono (Nat.le_of_lt r2.lt)))
 have hlt3 := r3.lt
 clear r0 r1 r2 hB1 hB2 hB3
 simp only [sv]
 go_wp2_with fail
 refine (HG.out _).mono ?_
 rintro e w4 ⟨rfl, hB4⟩
 have su := ((Four.new w3 25 (.int .u64 (wd u 0)) (.int .u64 (wd u 1)) (.int .u64 (wd u 2)) (.int .u64 (wd u 3))).alloc (.cells #[.int .u64 (wd l 0), .int .u64 (wd l 1), .int .u64 (wd l 2), .int .u64 (wd l 3)] 25)).alloc (.cells #[.int .u64 (wd d 0), .int .u64 (wd d 1), .int .u64 (wd d 2), .int .u64 (wd d 3)] 25)
 have sl := (Four.new (w3.alloc (.cells #[.int .u64 (wd u 0), .int .u64 (wd u 1), .int .u64 (wd u 2), .int .u64 (wd u 3)] 25)) 25 (.int .u64 (wd l 0)) (.int .u64 (wd l 1)) (.int .u64 (wd l 2)) (.int .u64 (wd l 3))).alloc (.cells #[.int .u64 (wd d 0), .int .u64 (wd d 1), .int .u64 (wd d 2), .int .u64 (wd d 3)] 25)
 have sd := Four.new ((w3.alloc (.cells #[.int .u64 (wd u 0), .int .u64 (wd u 1), .int .u64 (wd u 2), .int .u64 (wd u 3)] 25)).alloc (.cells #[.int .u64 (wd l 0), .int .u64 (wd l 1), .int .u64 (wd l 2), .int .u64 (wd l 3)] 25)) 25 (.int .u64 (wd d 0)) (.int .u64 (wd d 1)) (.int .u64 (wd d 2)) (.int .u64 (wd d 3))
 have r4 := ((((r3.alloc (.cells #[.int .u64 (wd u 0), .int .u64 (wd u 1), .int .u64 (wd u 2), .int .u64 (wd u 3)] 25)).alloc (.cells #[.int .u64 (wd l 0), .int .u64 (wd l 1), .int .u64 (wd l 2), .int .u64 (wd l 3)] 25)).alloc (.cells #[.int .u64 (wd d 0), .int .u64 (wd d 1), .int .u64 (wd d 2), .int .u64 (wd d 3)] 25)).below hB4 (by simp; omega))
 have su4 := su.below hB4 su.lt
 have sl4 := sl.below hB4 sl.lt
 have sd4 := sd.below hB4 sd.lt
 rw [World.size_alloc] at sl4
 rw [World.size_alloc, World.size_alloc] at sd4
 have hw4 : Below w.heap.size w w4 := (((hw3.alloc (by omega) _).alloc (by simp; omega) _).alloc (by simp; omega) _).trans (hB4.mono (by simp; omega))
 have hlt4 := r4.lt
 have hlu4 := su4.lt
 have hll4 := sl4.lt
 have hld4 := sd4.lt
 clear su sl sd r3 hB4
 have r4c0 := r4.c0
 have r4c1 := r4.c1
 have r4c2 := r4.c2
 have r4c3 := r4.c3
 have su4c0 := su4.c0
 have su4c1 := su4.c1
 have su4c2 := su4.c2
 have su4c3 := su4.c3
 have sl4c0 := sl4.c0
 have sl4c1 := sl4.c1
 have sl4c2 := sl4.c2
 have sl4c3 := sl4.c3
 have sd4c0 := sd4.c0
 have sd4c1 := sd4.c1
 have sd4c2 := sd4.c2
 have sd4c3 := sd4.c3
 have r4f0 := r4.fz 0
 have r4f1 := r4.fz 1
 have r4f2 := r4.fz 2
 have r4f3 := r4.fz 3
 have sg5 := Four.new w4 25 (.int .u64 (wd g 0)) (.int .u64 (wd g 1)) (.int .u64 (wd g 2)) (.int .u64 (wd g 3))
 have hw5 : Below w.heap.size w (w4.alloc (.cells #[.int .u64 (wd g 0), .int .u64 (wd g 1), .int .u64 (wd g 2), .int .u64 (wd g 3)] 25)) := hw4.alloc (by omega) _
 have r5 := r4.alloc (.cells #[.int .u64 (wd g 0), .int .u64 (wd g 1), .int .u64 (wd g 2), .int .u64 (wd g 3)] 25)
 have r5c0 := r5.c0
 have r5c1 := r5.c1
 have r5c2 := r5.c2
 have r5c3 := r5.c3
 have su5 := su4.alloc (.cells #[.int .u64 (wd g 0), .int .u64 (wd g 1), .int .u64 (wd g 2), .int .u64 (wd g 3)] 25)
 have su5c0 := su5.c0
 have su5c1 := su5.c1
 have su5c2 := su5.c2
 have su5c3 := su5.c3
 have sl5 := sl4.alloc (.cells #[.int .u64 (wd g 0), .int .u64 (wd g 1), .int .u64 (wd g 2), .int .u64 (wd g 3)] 25)
 have sl5c0 := sl5.c0
 have sl5c1 := sl5.c1
 have sl5c2 := sl5.c2
 have sl5c3 := sl5.c3
 have sd5 := sd4.alloc (.cells #[.int .u64 (wd g 0), .int .u64 (wd g 1), .int .u64 (wd g 2), .int .u64 (wd g 3)] 25)
 have sd5c0 := sd5.c0
 have sd5c1 := sd5.c1
 have sd5c2 := sd5.c2
 have sd5c3 := sd5.c3
 have r5f0 := r5.fz 0
 have r5f1 := r5.fz 1
 have r5f2 := r5.fz 2
 have r5f3 := r5.fz 3
 simp only [sv]
 go_wp2_with fail
 refine (or2_c u l (w4.heap.size + 1) 2 _ 25 (by have := heap_new (w4.alloc (.cells #[.int .u64 (wd g 0), .int .u64 (wd g 1), .int .u64 (wd g 2), .int .u64 (wd g 3)] 25)) (.cells #[.int .u64 (wd u 0), .int .u64 (wd u 1), .int .u64 (wd u 2), .int .u64 (wd u 3), .int .u64 (wd l 0), .int .u64 (wd l 1), .int .u64 (wd l 2), .int .u64 (wd l 3)] 25); simpa using this)).mono ?_
 rintro e w6 ⟨rfl, hB6⟩
 have r6 := (r5.alloc (.cells #[.int .u64 (wd u 0), .int .u64 (wd u 1), .int .u64 (wd u 2), .int .u64 (wd u 3), .int .u64 (wd l 0), .int .u64 (wd l 1), .int .u64 (wd l 2), .int .u64 (wd l 3)] 25)).below hB6 (by simp; omega)
 have hw6 : Below w.heap.size w w6 := (hw5.alloc (by simp; omega) _).trans (hB6.mono (by simp; omega))
 have r6c0 := r6.c0; have r6c1 := r6.c1; have r6c2 := r6.c2; have r6c3 := r6.c3
 have r6f0 := r6.fz 0; have r6f1 := r6.fz 1; have r6f2 := r6.fz 2; have r6f3 := r6.fz 3
 simp only [sv]
 go_wp2
 have q := FourS.set r6 (fun i => u i || l i)
 have qc0 := q.c0; have qc1 := q.c1; have qc2 := q.c2; have qc3 := q.c3
 refine bodyPost_ret (v := .tuple #[sv (fun i => u i || l i), .bool true]) (by simp [results, Tryz.results92, go_sem, qc0, qc1, qc2, qc3, sv]) rfl ⟨rfl, Below.set4 hw6 (by omega) _ _ _ _⟩
theorem class_alnum (u l d g : Nat → Bool) (hu : RangeTo 65 90 u) (hl : RangeTo 97 122 l) (hd : RangeTo 48 57 d) (hg : RangeTo 33 126 g)  (w : World) :
  Calls Tryz.prog 92 #[.string ⟨#[97, 108, 110, 117, 109]⟩] w fun e w' => e = .returned (.tuple #[sv (fun i => u i || l i || d i), .bool true]) ∧ Below w.heap.size w w' := by
 unfold RangeTo at *
 have HU := Lib.hid hu; have HL := Lib.hid hl; have HD := Lib.hid hd; have HG := Lib.hid hg
 clear hu hl hd hg
 go_enter Tryz.func92, Tryz.ntmps92
 go_wp2_with fail
 refine (HU.out _).mono ?_
 rintro e w1 ⟨rfl, hB1⟩
 go_wp2_with fail
 refine (HL.out _).mono ?_
 rintro e w2 ⟨rfl, hB2⟩
 go_wp2_with fail
 refine (HD.out _).mono ?_
 rintro e w3 ⟨rfl, hB3⟩
 have r0 := Four.new w 25 (.int .u64 0) (.int .u64 0) (.int .u64 0) (.int .u64 0)
 have r1 := r0.below hB1 r0.lt
 have r2 := r1.below hB2 r1.lt
 have r3 := r2.below hB3 r2.lt
 have hw3 : Below w.heap.size w w3 := (((Below.refl _ w).alloc (Nat.le_refl _) _).trans (hB1.mono (by simp))).trans ((hB2.mono (Nat.le_of_lt r1.lt)).trans (hB3.mono (Nat.le_of_lt r2.lt)))
 have hlt3 := r3.lt
 clear r0 r1 r2 hB1 hB2 hB3
 simp only [sv]
 go_wp2_with fail
 refine (HG.out _).mono ?_
 rintro e w4 ⟨rfl, hB4⟩
 have su := ((Four.new w3 25 (.int .u64 (wd u 0)) (.int .u64 (wd u 1)) (.int .u64 (wd u 2)) (.int .u64 (wd u 3))).alloc (.cells #[.int .u64 (wd l 0), .int .u64 (wd l 1), .int .u64 (wd l 2), .int .u64 (wd l 3)] 25)).alloc (.cells #[.int .u64 (wd d 0), .int .u64 (wd d 1), .int .u64 (wd d 2), .int .u64 (wd d 3)] 25)
 have sl := (Four.new (w3.alloc (.cells #[.int .u64 (wd u 0), .int .u64 (wd u 1), .int .u64 (wd u 2), .int .u64 (wd u 3)] 25)) 25 (.int .u64 (wd l 0)) (.int .u64 (wd l 1)) (.int .u64 (wd l 2)) (.int .u64 (wd l 3))).alloc (.cells #[.int .u64 (wd d 0), .int .u64 (wd d 1), .int .u64 (wd d 2), .int .u64 (wd d 3)] 25)
 have sd := Four.new ((w3.alloc (.cells #[.int .u64 (wd u 0), .int .u64 (wd u 1), .int .u64 (wd u 2), .int .u64 (wd u 3)] 25)).alloc (.cells #[.int .u64 (wd l 0), .int .u64 (wd l 1), .int .u64 (wd l 2), .int .u64 (wd l 3)] 25)) 25 (.int .u64 (wd d 0)) (.int .u64 (wd d 1)) (.int .u64 (wd d 2)) (.int .u64 (wd d 3))
 have r4 := ((((r3.alloc (.cells #[.int .u64 (wd u 0), .int .u64 (wd u 1), .int .u64 (wd u 2), .int .u64 (wd u 3)] 25)).alloc (.cells #[.int .u64 (wd l 0), .int .u64 (wd l 1), .int .u64 (wd l 2), .int .u64 (wd l 3)] 25)).alloc (.cells #[.int .u64 (wd d 0), .int .u64 (wd d 1), .int .u64 (wd d 2), .int .u64 (wd d 3)] 25)).below hB4 (by simp; omega))
 have su4 := su.below hB4 su.lt
 have sl4 := sl.below hB4 sl.lt
 have sd4 := sd.below hB4 sd.lt
 rw [World.size_alloc] at sl4
 rw [World.size_alloc, World.size_alloc] at sd4
 have hw4 : Below w.heap.size w w4 := (((hw3.alloc (by omega) _).alloc (by simp; omega) _).alloc (by simp; omega) _).trans (hB4.mono (by simp; omega))
 have hlt4 := r4.lt
 have hlu4 := su4.lt
 have hll4 := sl4.lt
 have hld4 := sd4.lt
 clear su sl sd r3 hB4
 have r4c0 := r4.c0
 have r4c1 := r4.c1
 have r4c2 := r4.c2
 have r4c3 := r4.c3
 have su4c0 := su4.c0
 have su4c1 := su4.c1
 have su4c2 := su4.c2
 have su4c3 := su4.c3
 have sl4c0 := sl4.c0
 have sl4c1 := sl4.c1
 have sl4c2 := sl4.c2
 have sl4c3 := sl4.c3
 have sd4c0 := sd4.c0
 have sd4c1 := sd4.c1
 have sd4c2 := sd4.c2
 have sd4c3 := sd4.c3
 have r4f0 := r4.fz 0
 have r4f1 := r4.fz 1
 have r4f2 := r4.fz 2
 have r4f3 := r4.fz 3
 have sg5 := Four.new w4 25 (.int .u64 (wd g 0)) (.int .u64 (wd g 1)) (.int .u64 (wd g 2)) (.int .u64 (wd g 3))
 have hw5 : Below w.heap.size w (w4.alloc (.cells #[.int .u64 (wd g 0), .int .u64 (wd g 1), .int .u64 (wd g 2), .int .u64 (wd g 3)] 25)) := hw4.alloc (by omega) _
 have r5 := r4.alloc (.cells #[.int .u64 (wd g 0), .int .u64 (wd g 1), .int .u64 (wd g 2), .int .u64 (wd g 3)] 25)
 have r5c0 := r5.c0
 have r5c1 := r5.c1
 have r5c2 := r5.c2
 have r5c3 := r5.c3
 have su5 := su4.alloc (.cells #[.int .u64 (wd g 0), .int .u64 (wd g 1), .int .u64 (wd g 2), .int .u64 (wd g 3)] 25)
 have su5c0 := su5.c0
 have su5c1 := su5.c1
 have su5c2 := su5.c2
 have su5c3 := su5.c3
 have sl5 := sl4.alloc (.cells #[.int .u64 (wd g 0), .int .u64 (wd g 1), .int .u64 (wd g 2), .int .u64 (wd g 3)] 25)
 have sl5c0 := sl5.c0
 have sl5c1 := sl5.c1
 have sl5c2 := sl5.c2
 have sl5c3 := sl5.c3
 have sd5 := sd4.alloc (.cells #[.int .u64 (wd g 0), .int .u64 (wd g 1), .int .u64 (wd g 2), .int .u64 (wd g 3)] 25)
 have sd5c0 := sd5.c0
 have sd5c1 := sd5.c1
 have sd5c2 := sd5.c2
 have sd5c3 := sd5.c3
 have r5f0 := r5.fz 0
 have r5f1 := r5.fz 1
 have r5f2 := r5.fz 2
 have r5f3 := r5.fz 3
 simp only [sv]
 go_wp2_with fail
 refine (or3_c u l d (w4.heap.size + 1) 3 _ 25 (by have := heap_new (w4.alloc (.cells #[.int .u64 (wd g 0), .int .u64 (wd g 1), .int .u64 (wd g 2), .int .u64 (wd g 3)] 25)) (.cells #[.int .u64 (wd u 0), .int .u64 (wd u 1), .int .u64 (wd u 2), .int .u64 (wd u 3), .int .u64 (wd l 0), .int .u64 (wd l 1), .int .u64 (wd l 2), .int .u64 (wd l 3), .int .u64 (wd d 0), .int .u64 (wd d 1), .int .u64 (wd d 2), .int .u64 (wd d 3)] 25); simpa using this)).mono ?_
 rintro e w6 ⟨rfl, hB6⟩
 have r6 := (r5.alloc (.cells #[.int .u64 (wd u 0), .int .u64 (wd u 1), .int .u64 (wd u 2), .int .u64 (wd u 3), .int .u64 (wd l 0), .int .u64 (wd l 1), .int .u64 (wd l 2), .int .u64 (wd l 3), .int .u64 (wd d 0), .int .u64 (wd d 1), .int .u64 (wd d 2), .int .u64 (wd d 3)] 25)).below hB6 (by simp; omega)
 have hw6 : Below w.heap.size w w6 := (hw5.alloc (by simp; omega) _).trans (hB6.mono (by simp; omega))
 have r6c0 := r6.c0; have r6c1 := r6.c1; have r6c2 := r6.c2; have r6c3 := r6.c3
 have r6f0 := r6.fz 0; have r6f1 := r6.fz 1; have r6f2 := r6.fz 2; have r6f3 := r6.fz 3
 simp only [sv]
 go_wp2
 have q := FourS.set r6 (fun i => u i || l i || d i)
 have qc0 := q.c0; have qc1 := q.c1; have qc2 := q.c2; have qc3 := q.c3
 refine bodyPost_ret (v := .tuple #[sv (fun i => u i || l i || d i), .bool true]) (by simp [results, Tryz.results92, go_sem, qc0, qc1, qc2, qc3, sv]) rfl ⟨rfl, Below.set4 hw6 (by omega) _ _ _ _⟩
theorem class_blank (u l d g : Nat → Bool) (hu : RangeTo 65 90 u) (hl : RangeTo 97 122 l) (hd : RangeTo 48 57 d) (hg : RangeTo 33 126 g) (b : Nat → Bool) (HB : Hid (OfTo ⟨#[9, 32]⟩ b)) (w : World) :
  Calls Tryz.prog 92 #[.string ⟨#[98, 108, 97, 110, 107]⟩] w fun e w' => e = .returned (.tuple #[sv (b), .bool true]) ∧ Below w.heap.size w w' := by
 unfold RangeTo at *
 have HU := Lib.hid hu; have HL := Lib.hid hl; have HD := Lib.hid hd; have HG := Lib.hid hg
 clear hu hl hd hg
 go_enter Tryz.func92, Tryz.ntmps92
 go_wp2_with fail
 refine (HU.out _).mono ?_
 rintro e w1 ⟨rfl, hB1⟩
 go_wp2_with fail
 refine (HL.out _).mono ?_
 rintro e w2 ⟨rfl, hB2⟩
 go_wp2_with fail
 refine (HD.out _).mono ?_
 rintro e w3 ⟨rfl, hB3⟩
 have r0 := Four.new w 25 (.int .u64 0) (.int .u64 0) (.int .u64 0) (.int .u64 0)
 have r1 := r0.below hB1 r0.lt
 have r2 := r1.below hB2 r1.lt
 have r3 := r2.below hB3 r2.lt
 have hw3 : Below w.heap.size w w3 := (((Below.refl _ w).alloc (Nat.le_refl _) _).trans (hB1.mono (by simp))).trans ((hB2.mono (Nat.le_of_lt r1.lt)).trans (hB3.mono (Nat.le_of_lt r2.lt)))
 have hlt3 := r3.lt
 clear r0 r1 r2 hB1 hB2 hB3
 simp only [sv]
 go_wp2_with fail
 refine (HG.out _).mono ?_
 rintro e w4 ⟨rfl, hB4⟩
 have su := ((Four.new w3 25 (.int .u64 (wd u 0)) (.int .u64 (wd u 1)) (.int .u64 (wd u 2)) (.int .u64 (wd u 3))).alloc (.cells #[.int .u64 (wd l 0), .int .u64 (wd l 1), .int .u64 (wd l 2), .int .u64 (wd l 3)] 25)).alloc (.cells #[.int .u64 (wd d 0), .int .u64 (wd d 1), .int .u64 (wd d 2), .int .u64 (wd d 3)] 25)
 have sl := (Four.new (w3.alloc (.cells #[.int .u64 (wd u 0), .int .u64 (wd u 1), .int .u64 (wd u 2), .int .u64 (wd u 3)] 25)) 25 (.int .u64 (wd l 0)) (.int .u64 (wd l 1)) (.int .u64 (wd l 2)) (.int .u64 (wd l 3))).alloc (.cells #[.int .u64 (wd d 0), .int .u64 (wd d 1), .int .u64 (wd d 2), .int .u64 (wd d 3)] 25)
 have sd := Four.new ((w3.alloc (.cells #[.int .u64 (wd u 0), .int .u64 (wd u 1), .int .u64 (wd u 2), .int .u64 (wd u 3)] 25)).alloc (.cells #[.int .u64 (wd l 0), .int .u64 (wd l 1), .int .u64 (wd l 2), .int .u64 (wd l 3)] 25)) 25 (.int .u64 (wd d 0)) (.int .u64 (wd d 1)) (.int .u64 (wd d 2)) (.int .u64 (wd d 3))
 have r4 := ((((r3.alloc (.cells #[.int .u64 (wd u 0), .int .u64 (wd u 1), .int .u64 (wd u 2), .int .u64 (wd u 3)] 25)).alloc (.cells #[.int .u64 (wd l 0), .int .u64 (wd l 1), .int .u64 (wd l 2), .int .u64 (wd l 3)] 25)).alloc (.cells #[.int .u64 (wd d 0), .int .u64 (wd d 1), .int .u64 (wd d 2), .int .u64 (wd d 3)] 25)).below hB4 (by simp; omega))
 have su4 := su.below hB4 su.lt
 have sl4 := sl.below hB4 sl.lt
 have sd4 := sd.below hB4 sd.lt
 rw [World.size_alloc] at sl4
 rw [World.size_alloc, World.size_alloc] at sd4
 have hw4 : Below w.heap.size w w4 := (((hw3.alloc (by omega) _).alloc (by simp; omega) _).alloc (by simp; omega) _).trans (hB4.mono (by simp; omega))
 have hlt4 := r4.lt
 have hlu4 := su4.lt
 have hll4 := sl4.lt
 have hld4 := sd4.lt
 clear su sl sd r3 hB4
 have r4c0 := r4.c0
 have r4c1 := r4.c1
 have r4c2 := r4.c2
 have r4c3 := r4.c3
 have su4c0 := su4.c0
 have su4c1 := su4.c1
 have su4c2 := su4.c2
 have su4c3 := su4.c3
 have sl4c0 := sl4.c0
 have sl4c1 := sl4.c1
 have sl4c2 := sl4.c2
 have sl4c3 := sl4.c3
 have sd4c0 := sd4.c0
 have sd4c1 := sd4.c1
 have sd4c2 := sd4.c2
 have sd4c3 := sd4.c3
 have r4f0 := r4.fz 0
 have r4f1 := r4.fz 1
 have r4f2 := r4.fz 2
 have r4f3 := r4.fz 3
 have sg5 := Four.new w4 25 (.int .u64 (wd g 0)) (.int .u64 (wd g 1)) (.int .u64 (wd g 2)) (.int .u64 (wd g 3))
 have hw5 : Below w.heap.size w (w4.alloc (.cells #[.int .u64 (wd g 0), .int .u64 (wd g 1), .int .u64 (wd g 2), .int .u64 (wd g 3)] 25)) := hw4.alloc (by omega) _
 have r5 := r4.alloc (.cells #[.int .u64 (wd g 0), .int .u64 (wd g 1), .int .u64 (wd g 2), .int .u64 (wd g 3)] 25)
 have r5c0 := r5.c0
 have r5c1 := r5.c1
 have r5c2 := r5.c2
 have r5c3 := r5.c3
 have su5 := su4.alloc (.cells #[.int .u64 (wd g 0), .int .u64 (wd g 1), .int .u64 (wd g 2), .int .u64 (wd g 3)] 25)
 have su5c0 := su5.c0
 have su5c1 := su5.c1
 have su5c2 := su5.c2
 have su5c3 := su5.c3
 have sl5 := sl4.alloc (.cells #[.int .u64 (wd g 0), .int .u64 (wd g 1), .int .u64 (wd g 2), .int .u64 (wd g 3)] 25)
 have sl5c0 := sl5.c0
 have sl5c1 := sl5.c1
 have sl5c2 := sl5.c2
 have sl5c3 := sl5.c3
 have sd5 := sd4.alloc (.cells #[.int .u64 (wd g 0), .int .u64 (wd g 1), .int .u64 (wd g 2), .int .u64 (wd g 3)] 25)
 have sd5c0 := sd5.c0
 have sd5c1 := sd5.c1
 have sd5c2 := sd5.c2
 have sd5c3 := sd5.c3
 have r5f0 := r5.fz 0
 have r5f1 := r5.fz 1
 have r5f2 := r5.fz 2
 have r5f3 := r5.fz 3
 simp only [sv]
 unfold OfTo at HB
 go_wp2_with fail
 refine (HB.out _).mono ?_
 rintro e w6 ⟨rfl, hB6⟩
 have r6 := r5.below hB6 r5.lt
 have hw6 : Below w.heap.size w w6 := hw5.trans (hB6.mono (by simp; omega))
 have r6c0 := r6.c0; have r6c1 := r6.c1; have r6c2 := r6.c2; have r6c3 := r6.c3
 have r6f0 := r6.fz 0; have r6f1 := r6.fz 1; have r6f2 := r6.fz 2; have r6f3 := r6.fz 3
 simp only [sv]
 go_wp2
 have q := FourS.set r6 (b)
 have qc0 := q.c0; have qc1 := q.c1; have qc2 := q.c2; have qc3 := q.c3
 refine bodyPost_ret (v := .tuple #[sv (b), .bool true]) (by simp [results, Tryz.results92, go_sem, qc0, qc1, qc2, qc3, sv]) rfl ⟨rfl, Below.set4 hw6 (by omega) _ _ _ _⟩
end Go.Proofs.YtkmfncajdkdenaaGreatDoor
