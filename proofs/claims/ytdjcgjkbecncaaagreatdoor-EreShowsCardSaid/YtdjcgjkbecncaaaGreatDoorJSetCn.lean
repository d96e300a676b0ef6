/- Class, of all its names but punct. -/
import Derived.Test.YtdjcgjkbecncaaaGreatDoorJRxTd
import Derived.Test.YtdjcgjkbecncaaaGreatDoorJSetE
set_option linter.unusedVariables false
set_option linter.unusedSimpArgs false
set_option maxRecDepth 100000
set_option maxHeartbeats 40000000
namespace Go.Proofs.YtdjcgjkbecncaaaGreatDoor
open Go.RowKit
theorem class_fam (u l d g : Nat → Bool) (hu : RangeTo 65 90 u) (hl : RangeTo 97 122 l) (hd : RangeTo 48 57 d) (hg : RangeTo 33 126 g) (nm : ByteArray) (R : Value) (h : (nm = ⟨#[117, 112, 112, 101, 114]⟩ ∧ R = .tuple #[sv (u), .bool true]) ∨ (nm = ⟨#[108, 111, 119, 101, 114]⟩ ∧ R = .tuple #[sv (l), .bool true]) ∨ (nm = ⟨#[100, 105, 103, 105, 116]⟩ ∧ R = .tuple #[sv (d), .bool true]) ∨ (nm = ⟨#[103, 114, 97, 112, 104]⟩ ∧ R = .tuple #[sv (g), .bool true]) ∨ (nm = ⟨#[97, 108, 112, 104, 97]⟩ ∧ R = .tuple #[sv (fun i => u i || l i), .bool true]) ∨ (nm = ⟨#[97, 108, 110, 117, 109]⟩ ∧ R = .tuple #[sv (fun i => u i || l i || d i), .bool true]) ∨ (∃ b : Nat → Bool, Hid (OfTo ⟨#[9, 32]⟩ b) ∧ nm = ⟨#[98, 108, 97, 110, 107]⟩ ∧ R = .tuple #[sv (b), .bool true]) ∨ (∃ x : Nat → Bool, ∃ y : Nat → Bool, RangeTo 9 13 x ∧ OfTo ⟨#[32]⟩ y ∧ nm = ⟨#[115, 112, 97, 99, 101]⟩ ∧ R = .tuple #[sv (fun i => x i || y i), .bool true]) ∨ (∃ x : Nat → Bool, ∃ y : Nat → Bool, RangeTo 0 31 x ∧ RangeTo 127 127 y ∧ nm = ⟨#[99, 110, 116, 114, 108]⟩ ∧ R = .tuple #[sv (fun i => x i || y i), .bool true]) ∨ (∃ x : Nat → Bool, ∃ y : Nat → Bool, RangeTo 65 70 x ∧ RangeTo 97 102 y ∧ nm = ⟨#[120, 100, 105, 103, 105, 116]⟩ ∧ R = .tuple #[sv (fun i => d i || x i || y i), .bool true]) ∨ (∃ x : Nat → Bool, OfTo ⟨#[32]⟩ x ∧ nm = ⟨#[112, 114, 105, 110, 116]⟩ ∧ R = .tuple #[sv (fun i => g i || x i), .bool true]) ∨ (((nm.toList == ([117, 112, 112, 101, 114] : List UInt8)) = false) ∧ ((nm.toList == ([108, 111, 119, 101, 114] : List UInt8)) = false) ∧ ((nm.toList == ([97, 108, 112, 104, 97] : List UInt8)) = false) ∧ ((nm.toList == ([100, 105, 103, 105, 116] : List UInt8)) = false) ∧ ((nm.toList == ([97, 108, 110, 117, 109] : List UInt8)) = false) ∧ ((nm.toList == ([120, 100, 105, 103, 105, 116] : List UInt8)) = false) ∧ ((nm.toList == ([98, 108, 97, 110, 107] : List UInt8)) = false) ∧ ((nm.toList == ([115, 112, 97, 99, 101] : List UInt8)) = false) ∧ ((nm.toList == ([99, 110, 116, 114, 108] : List UInt8)) = false) ∧ ((nm.toList == ([103, 114, 97, 112, 104] : List UInt8)) = false) ∧ ((nm.toList == ([112, 114, 105, 110, 116] : List UInt8)) = false) ∧ ((nm.toList == ([112, 117, 110, 99, 116] : List UInt8)) = false) ∧ R = .tuple #[.agg #[.int .u64 0, .int .u64 0, .int .u64 0, .int .u64 0], .bool false])) (w : World) :
  Calls Tryz.prog 182 #[.string nm] w fun e w' => e = .returned R ∧ Below w.heap.size w w' := by
 unfold RangeTo at hu hl hd hg
 have HU := Lib.hid hu; have HL := Lib.hid hl; have HD := Lib.hid hd; have HG := Lib.hid hg
 have HH := Lib.hid h
 clear hu hl hd hg h
 go_enter Tryz.func182, Tryz.ntmps182
 go_wp2_with fail
 refine (HU.out _).mono ?_
 rintro e w1 ⟨rfl, hB1⟩
 go_wp2_with fail
 refine (HL.out _).mono ?_
 rintro e w2 ⟨rfl, hB2⟩
 go_wp2_with fail
 refine (HD.out _).mono ?_
 rintro e w3 ⟨rfl, hB3⟩
 have r0 := Four.new w 24 (.int .u64 0) (.int .u64 0) (.int .u64 0) (.int .u64 0)
 have r1 := r0.below hB1 r0.lt
 have r2 := r1.below hB2 r1.lt
 have r3 := r2.below hB3 r2.lt
 have hw3 : Below w.heap.size w w3 := (((Below.refl _ w).alloc (Nat.le_refl _) _).trans (hB1.mono (by simp))).trans ((hB2.mono (Nat.le_of_lt r1.lt)).trans (hB3.mono (Nat.le_of_lt r2.lt)))
 have hlt3 := r3.lt
 clear r0 r1 r2 hB1 hB2 hB3
 simp only [sv]
 go_wp2_with fail
 refine (HG.out _).mono ?_
 rintro e w4 ⟨rfl, hB4⟩
 have su := ((Four.new w3 24 (.int .u64 (wd u 0)) (.int .u64 (wd u 1)) (.int .u64 (wd u 2)) (.int .u64 (wd u 3))).alloc (.cells #[.int .u64 (wd l 0), .int .u64 (wd l 1), .int .u64 (wd l 2), .int .u64 (wd l 3)] 24)).alloc (.cells #[.int .u64 (wd d 0), .int .u64 (wd d 1), .int .u64 (wd d 2), .int .u64 (wd d 3)] 24)
 have sl := (Four.new (w3.alloc (.cells #[.int .u64 (wd u 0), .int .u64 (wd u 1), .int .u64 (wd u 2), .int .u64 (wd u 3)] 24)) 24 (.int .u64 (wd l 0)) (.int .u64 (wd l 1)) (.int .u64 (wd l 2)) (.int .u64 (wd l 3))).alloc (.cells #[.int .u64 (wd d 0), .int .u64 (wd d 1), .int .u64 (wd d 2), .int .u64 (wd d 3)] 24)
 have sd := Four.new ((w3.alloc (.cells #[.int .u64 (wd u 0), .int .u64 (wd u 1), .int .u64 (wd u 2), .int .u64 (wd u 3)] 24)).alloc (.cells #[.int .u64 (wd l 0), .int .u64 (wd l 1), .int .u64 (wd l 2), .int .u64 (wd l 3)] 24)) 24 (.int .u64 (wd d 0)) (.int .u64 (wd d 1)) (.int .u64 (wd d 2)) (.int .u64 (wd d 3))
 have r4 := ((((r3.alloc (.cells #[.int .u64 (wd u 0), .int .u64 (wd u 1), .int .u64 (wd u 2), .int .u64 (wd u 3)] 24)).alloc (.cells #[.int .u64 (wd l 0), .int .u64 (wd l 1), .int .u64 (wd l 2), .int .u64 (wd l 3)] 24)).alloc (.cells #[.int .u64 (wd d 0), .int .u64 (wd d 1), .int .u64 (wd d 2), .int .u64 (wd d 3)] 24)).below hB4 (by simp; omega))
 have su4 := su.below hB4 su.lt
 have sl4 := sl.below hB4 sl.lt
 have sd4 := sd.below hB4 sd.lt
 rw [World.size_alloc] at sl4
 rw [World.size_alloc, World.size_alloc] at sd4
 have hw4 : Below w.heap.size w w4 := (((hw3.alloc (by omega) _).alloc (by simp; omega) _).alloc (by simp; omega) _).trans (hB4.mono (by simp; omega))
 have hlt4 := r4.lt
 have hlu4 := su4.lt
 have hll4 := sl4.lt
 have hld4 := sd4.lt
 clear su sl sd r3 hB4
 have r4c0 := r4.c0
 have r4c1 := r4.c1
 have r4c2 := r4.c2
 have r4c3 := r4.c3
 have su4c0 := su4.c0
 have su4c1 := su4.c1
 have su4c2 := su4.c2
 have su4c3 := su4.c3
 have sl4c0 := sl4.c0
 have sl4c1 := sl4.c1
 have sl4c2 := sl4.c2
 have sl4c3 := sl4.c3
 have sd4c0 := sd4.c0
 have sd4c1 := sd4.c1
 have sd4c2 := sd4.c2
 have sd4c3 := sd4.c3
 have r4f0 := r4.fz 0
 have r4f1 := r4.fz 1
 have r4f2 := r4.fz 2
 have r4f3 := r4.fz 3
 have sg5 := Four.new w4 24 (.int .u64 (wd g 0)) (.int .u64 (wd g 1)) (.int .u64 (wd g 2)) (.int .u64 (wd g 3))
 have hw5 : Below w.heap.size w (w4.alloc (.cells #[.int .u64 (wd g 0), .int .u64 (wd g 1), .int .u64 (wd g 2), .int .u64 (wd g 3)] 24)) := hw4.alloc (by omega) _
 have r5 := r4.alloc (.cells #[.int .u64 (wd g 0), .int .u64 (wd g 1), .int .u64 (wd g 2), .int .u64 (wd g 3)] 24)
 have r5c0 := r5.c0
 have r5c1 := r5.c1
 have r5c2 := r5.c2
 have r5c3 := r5.c3
 have su5 := su4.alloc (.cells #[.int .u64 (wd g 0), .int .u64 (wd g 1), .int .u64 (wd g 2), .int .u64 (wd g 3)] 24)
 have su5c0 := su5.c0
 have su5c1 := su5.c1
 have su5c2 := su5.c2
 have su5c3 := su5.c3
 have sl5 := sl4.alloc (.cells #[.int .u64 (wd g 0), .int .u64 (wd g 1), .int .u64 (wd g 2), .int .u64 (wd g 3)] 24)
 have sl5c0 := sl5.c0
 have sl5c1 := sl5.c1
 have sl5c2 := sl5.c2
 have sl5c3 := sl5.c3
 have sd5 := sd4.alloc (.cells #[.int .u64 (wd g 0), .int .u64 (wd g 1), .int .u64 (wd g 2), .int .u64 (wd g 3)] 24)
 have sd5c0 := sd5.c0
 have sd5c1 := sd5.c1
 have sd5c2 := sd5.c2
 have sd5c3 := sd5.c3
 have r5f0 := r5.fz 0
 have r5f1 := r5.fz 1
 have r5f2 := r5.fz 2
 have r5f3 := r5.fz 3
 obtain ⟨rfl, rfl⟩ | ⟨rfl, rfl⟩ | ⟨rfl, rfl⟩ | ⟨rfl, rfl⟩ | ⟨rfl, rfl⟩ | ⟨rfl, rfl⟩ | ⟨b, HB, rfl, rfl⟩ | ⟨x, y, hx, hy, rfl, rfl⟩ | ⟨x, y, hx, hy, rfl, rfl⟩ | ⟨x, y, hx, hy, rfl, rfl⟩ | ⟨x, hx, rfl, rfl⟩ | ⟨hupper, hlower, halpha, hdigit, halnum, hxdigit, hblank, hspace, hcntrl, hgraph, hprint, hpunct, rfl⟩ := HH.out
 all_goals clear HH
 ·simp only [sv]
  go_wp2
  have q := (FourS.set r4 (u)).alloc (.cells #[.int .u64 (wd g 0), .int .u64 (wd g 1), .int .u64 (wd g 2), .int .u64 (wd g 3)] 24)
  have qc0 := q.c0; have qc1 := q.c1; have qc2 := q.c2; have qc3 := q.c3
  refine bodyPost_ret (v := .tuple #[sv (u), .bool true]) (by simp [results, Tryz.results182, go_sem, qc0, qc1, qc2, qc3, sv]) rfl ⟨rfl, (Below.set4 hw4 (by omega) _ _ _ _).alloc (by simp [World.setCell]; omega) _⟩
 ·simp only [sv]
  go_wp2
  have q := (FourS.set r4 (l)).alloc (.cells #[.int .u64 (wd g 0), .int .u64 (wd g 1), .int .u64 (wd g 2), .int .u64 (wd g 3)] 24)
  have qc0 := q.c0; have qc1 := q.c1; have qc2 := q.c2; have qc3 := q.c3
  refine bodyPost_ret (v := .tuple #[sv (l), .bool true]) (by simp [results, Tryz.results182, go_sem, qc0, qc1, qc2, qc3, sv]) rfl ⟨rfl, (Below.set4 hw4 (by omega) _ _ _ _).alloc (by simp [World.setCell]; omega) _⟩
 ·simp only [sv]
  go_wp2
  have q := (FourS.set r4 (d)).alloc (.cells #[.int .u64 (wd g 0), .int .u64 (wd g 1), .int .u64 (wd g 2), .int .u64 (wd g 3)] 24)
  have qc0 := q.c0; have qc1 := q.c1; have qc2 := q.c2; have qc3 := q.c3
  refine bodyPost_ret (v := .tuple #[sv (d), .bool true]) (by simp [results, Tryz.results182, go_sem, qc0, qc1, qc2, qc3, sv]) rfl ⟨rfl, (Below.set4 hw4 (by omega) _ _ _ _).alloc (by simp [World.setCell]; omega) _⟩
 ·simp only [sv]
  go_wp2
  have q := (FourS.set r4 (g)).alloc (.cells #[.int .u64 (wd g 0), .int .u64 (wd g 1), .int .u64 (wd g 2), .int .u64 (wd g 3)] 24)
  have qc0 := q.c0; have qc1 := q.c1; have qc2 := q.c2; have qc3 := q.c3
  refine bodyPost_ret (v := .tuple #[sv (g), .bool true]) (by simp [results, Tryz.results182, go_sem, qc0, qc1, qc2, qc3, sv]) rfl ⟨rfl, (Below.set4 hw4 (by omega) _ _ _ _).alloc (by simp [World.setCell]; omega) _⟩
 ·simp only [sv]
  go_wp2_with fail
  refine (or2_c u l (w4.heap.size + 1) 2 _ 24 (by have := heap_new (w4.alloc (.cells #[.int .u64 (wd g 0), .int .u64 (wd g 1), .int .u64 (wd g 2), .int .u64 (wd g 3)] 24)) (.cells #[.int .u64 (wd u 0), .int .u64 (wd u 1), .int .u64 (wd u 2), .int .u64 (wd u 3), .int .u64 (wd l 0), .int .u64 (wd l 1), .int .u64 (wd l 2), .int .u64 (wd l 3)] 24); simpa using this)).mono ?_
  rintro e w6 ⟨rfl, hB6⟩
  have r6 := (r5.alloc (.cells #[.int .u64 (wd u 0), .int .u64 (wd u 1), .int .u64 (wd u 2), .int .u64 (wd u 3), .int .u64 (wd l 0), .int .u64 (wd l 1), .int .u64 (wd l 2), .int .u64 (wd l 3)] 24)).below hB6 (by simp; omega)
  have hw6 : Below w.heap.size w w6 := (hw5.alloc (by simp; omega) _).trans (hB6.mono (by simp; omega))
  have r6c0 := r6.c0; have r6c1 := r6.c1; have r6c2 := r6.c2; have r6c3 := r6.c3
  have r6f0 := r6.fz 0; have r6f1 := r6.fz 1; have r6f2 := r6.fz 2; have r6f3 := r6.fz 3
  simp only [sv]
  go_wp2
  have q := FourS.set r6 (fun i => u i || l i)
  have qc0 := q.c0; have qc1 := q.c1; have qc2 := q.c2; have qc3 := q.c3
  refine bodyPost_ret (v := .tuple #[sv (fun i => u i || l i), .bool true]) (by simp [results, Tryz.results182, go_sem, qc0, qc1, qc2, qc3, sv]) rfl ⟨rfl, Below.set4 hw6 (by omega) _ _ _ _⟩
 ·simp only [sv]
  go_wp2_with fail
  refine (or3_c u l d (w4.heap.size + 1) 3 _ 24 (by have := heap_new (w4.alloc (.cells #[.int .u64 (wd g 0), .int .u64 (wd g 1), .int .u64 (wd g 2), .int .u64 (wd g 3)] 24)) (.cells #[.int .u64 (wd u 0), .int .u64 (wd u 1), .int .u64 (wd u 2), .int .u64 (wd u 3), .int .u64 (wd l 0), .int .u64 (wd l 1), .int .u64 (wd l 2), .int .u64 (wd l 3), .int .u64 (wd d 0), .int .u64 (wd d 1), .int .u64 (wd d 2), .int .u64 (wd d 3)] 24); simpa using this)).mono ?_
  rintro e w6 ⟨rfl, hB6⟩
  have r6 := (r5.alloc (.cells #[.int .u64 (wd u 0), .int .u64 (wd u 1), .int .u64 (wd u 2), .int .u64 (wd u 3), .int .u64 (wd l 0), .int .u64 (wd l 1), .int .u64 (wd l 2), .int .u64 (wd l 3), .int .u64 (wd d 0), .int .u64 (wd d 1), .int .u64 (wd d 2), .int .u64 (wd d 3)] 24)).below hB6 (by simp; omega)
  have hw6 : Below w.heap.size w w6 := (hw5.alloc (by simp; omega) _).trans (hB6.mono (by simp; omega))
  have r6c0 := r6.c0; have r6c1 := r6.c1; have r6c2 := r6.c2; have r6c3 := r6.c3
  have r6f0 := r6.fz 0; have r6f1 := r6.fz 1; have r6f2 := r6.fz 2; have r6f3 := r6.fz 3
  simp only [sv]
  go_wp2
  have q := FourS.set r6 (fun i => u i || l i || d i)
  have qc0 := q.c0; have qc1 := q.c1; have qc2 := q.c2; have qc3 := q.c3
  refine bodyPost_ret (v := .tuple #[sv (fun i => u i || l i || d i), .bool true]) (by simp [results, Tryz.results182, go_sem, qc0, qc1, qc2, qc3, sv]) rfl ⟨rfl, Below.set4 hw6 (by omega) _ _ _ _⟩
 ·simp only [sv]
  unfold OfTo at HB
  go_wp2_with fail
  refine (HB.out _).mono ?_
  rintro e w6 ⟨rfl, hB6⟩
  have r6 := r5.below hB6 r5.lt
  have hw6 : Below w.heap.size w w6 := hw5.trans (hB6.mono (by simp; omega))
  have r6c0 := r6.c0; have r6c1 := r6.c1; have r6c2 := r6.c2; have r6c3 := r6.c3
  have r6f0 := r6.fz 0; have r6f1 := r6.fz 1; have r6f2 := r6.fz 2; have r6f3 := r6.fz 3
  simp only [sv]
  go_wp2
  have q := FourS.set r6 (b)
  have qc0 := q.c0; have qc1 := q.c1; have qc2 := q.c2; have qc3 := q.c3
  refine bodyPost_ret (v := .tuple #[sv (b), .bool true]) (by simp [results, Tryz.results182, go_sem, qc0, qc1, qc2, qc3, sv]) rfl ⟨rfl, Below.set4 hw6 (by omega) _ _ _ _⟩
 ·unfold RangeTo OfTo at *
  have HX := Lib.hid hx; have HY := Lib.hid hy
  clear hx hy
  simp only [sv]
  go_wp2_with fail
  refine (HX.out _).mono ?_
  rintro e w6 ⟨rfl, hB6⟩
  go_wp2_with fail
  refine (HY.out _).mono ?_
  rintro e w7 ⟨rfl, hB7⟩
  have r6 := r5.below hB6 r5.lt
  have r7 := r6.below hB7 r6.lt
  have hw6 : Below w.heap.size w w6 := hw5.trans (hB6.mono (by simp; omega))
  have hw7 : Below w.heap.size w w7 := hw6.trans (hB7.mono (Nat.le_of_lt r6.lt))
  simp only [sv]
  go_wp2_with fail
  refine (or2_c x y (w7.heap.size) 2 _ 24 (by have := heap_new (w7) (.cells #[.int .u64 (wd x 0), .int .u64 (wd x 1), .int .u64 (wd x 2), .int .u64 (wd x 3), .int .u64 (wd y 0), .int .u64 (wd y 1), .int .u64 (wd y 2), .int .u64 (wd y 3)] 24); simpa using this)).mono ?_
  rintro e w8 ⟨rfl, hB8⟩
  have r8 := (r7.alloc (.cells #[.int .u64 (wd x 0), .int .u64 (wd x 1), .int .u64 (wd x 2), .int .u64 (wd x 3), .int .u64 (wd y 0), .int .u64 (wd y 1), .int .u64 (wd y 2), .int .u64 (wd y 3)] 24)).below hB8 (by have := r7.lt; simp; omega)
  have hw8 : Below w.heap.size w w8 := (hw7.alloc (Nat.le_of_lt r7.lt) _).trans (hB8.mono (by have := r7.lt; simp; omega))
  have r8c0 := r8.c0; have r8c1 := r8.c1; have r8c2 := r8.c2; have r8c3 := r8.c3
  have r8f0 := r8.fz 0; have r8f1 := r8.fz 1; have r8f2 := r8.fz 2; have r8f3 := r8.fz 3
  simp only [sv]
  go_wp2
  have q := FourS.set r8 (fun i => x i || y i)
  have qc0 := q.c0; have qc1 := q.c1; have qc2 := q.c2; have qc3 := q.c3
  refine bodyPost_ret (v := .tuple #[sv (fun i => x i || y i), .bool true]) (by simp [results, Tryz.results182, go_sem, qc0, qc1, qc2, qc3, sv]) rfl ⟨rfl, Below.set4 hw8 (by omega) _ _ _ _⟩
 ·unfold RangeTo at *
  have HX := Lib.hid hx; have HY := Lib.hid hy
  clear hx hy
  simp only [sv]
  go_wp2_with fail
  refine (HX.out _).mono ?_
  rintro e w6 ⟨rfl, hB6⟩
  go_wp2_with fail
  refine (HY.out _).mono ?_
  rintro e w7 ⟨rfl, hB7⟩
  have r6 := r5.below hB6 r5.lt
  have r7 := r6.below hB7 r6.lt
  have hw6 : Below w.heap.size w w6 := hw5.trans (hB6.mono (by simp; omega))
  have hw7 : Below w.heap.size w w7 := hw6.trans (hB7.mono (Nat.le_of_lt r6.lt))
  simp only [sv]
  go_wp2_with fail
  refine (or2_c x y (w7.heap.size) 2 _ 24 (by have := heap_new (w7) (.cells #[.int .u64 (wd x 0), .int .u64 (wd x 1), .int .u64 (wd x 2), .int .u64 (wd x 3), .int .u64 (wd y 0), .int .u64 (wd y 1), .int .u64 (wd y 2), .int .u64 (wd y 3)] 24); simpa using this)).mono ?_
  rintro e w8 ⟨rfl, hB8⟩
  have r8 := (r7.alloc (.cells #[.int .u64 (wd x 0), .int .u64 (wd x 1), .int .u64 (wd x 2), .int .u64 (wd x 3), .int .u64 (wd y 0), .int .u64 (wd y 1), .int .u64 (wd y 2), .int .u64 (wd y 3)] 24)).below hB8 (by have := r7.lt; simp; omega)
  have hw8 : Below w.heap.size w w8 := (hw7.alloc (Nat.le_of_lt r7.lt) _).trans (hB8.mono (by have := r7.lt; simp; omega))
  have r8c0 := r8.c0; have r8c1 := r8.c1; have r8c2 := r8.c2; have r8c3 := r8.c3
  have r8f0 := r8.fz 0; have r8f1 := r8.fz 1; have r8f2 := r8.fz 2; have r8f3 := r8.fz 3
  simp only [sv]
  go_wp2
  have q := FourS.set r8 (fun i => x i || y i)
  have qc0 := q.c0; have qc1 := q.c1; have qc2 := q.c2; have qc3 := q.c3
  refine bodyPost_ret (v := .tuple #[sv (fun i => x i || y i), .bool true]) (by simp [results, Tryz.results182, go_sem, qc0, qc1, qc2, qc3, sv]) rfl ⟨rfl, Below.set4 hw8 (by omega) _ _ _ _⟩
 ·unfold RangeTo at *
  have HX := Lib.hid hx; have HY := Lib.hid hy
  clear hx hy
  simp only [sv]
  go_wp2_with fail
  have hk := hw5
  go_region_with (first
   | (go_at_call_of 96 (Value.int .u8 65); refine (HX.out _).mono ?_; rintro e wA ⟨rfl, hBA⟩; have hBA1 : Below (w4.alloc (.cells #[.int .u64 (wd g 0), .int .u64 (wd g 1), .int .u64 (wd g 2), .int .u64 (wd g 3)] 24)).heap.size (w4.alloc (.cells #[.int .u64 (wd g 0), .int .u64 (wd g 1), .int .u64 (wd g 2), .int .u64 (wd g 3)] 24)) wA := ((Below.refl _ _).drew).trans hBA; have rA := r5.below hBA1 r5.lt; have hwA : Below w.heap.size w wA := hw5.trans (hBA1.mono (by simp; omega)); have sdA := sd5.below hBA1 sd5.lt; have sdAc0 := sdA.c0; have sdAc1 := sdA.c1; have sdAc2 := sdA.c2; have sdAc3 := sdA.c3; have rAc0 := rA.c0; have rAc1 := rA.c1; have rAc2 := rA.c2; have rAc3 := rA.c3; have rAf0 := rA.fz 0; have rAf1 := rA.fz 1; have rAf2 := rA.fz 2; have rAf3 := rA.fz 3; simp only [sv])
   | (go_at_call_of 96 (Value.int .u8 97); refine (HY.out _).mono ?_; rintro e wB ⟨rfl, hBB⟩; have rB := rA.below hBB rA.lt; have sdB := sdA.below hBB sdA.lt; have hwB : Below w.heap.size w wB := hwA.trans (hBB.mono (Nat.le_of_lt rA.lt)); have sdBc0 := sdB.c0; have sdBc1 := sdB.c1; have sdBc2 := sdB.c2; have sdBc3 := sdB.c3; simp only [sv])
   | (go_at_call 121; refine (or3_c d x y (wB.heap.size) 3 _ 24 (by have := heap_new wB (.cells #[.int .u64 (wd d 0), .int .u64 (wd d 1), .int .u64 (wd d 2), .int .u64 (wd d 3), .int .u64 (wd x 0), .int .u64 (wd x 1), .int .u64 (wd x 2), .int .u64 (wd x 3), .int .u64 (wd y 0), .int .u64 (wd y 1), .int .u64 (wd y 2), .int .u64 (wd y 3)] 24); simpa using this)).mono ?_; rintro e wO ⟨rfl, hBO⟩; have rO := (rB.alloc (.cells #[.int .u64 (wd d 0), .int .u64 (wd d 1), .int .u64 (wd d 2), .int .u64 (wd d 3), .int .u64 (wd x 0), .int .u64 (wd x 1), .int .u64 (wd x 2), .int .u64 (wd x 3), .int .u64 (wd y 0), .int .u64 (wd y 1), .int .u64 (wd y 2), .int .u64 (wd y 3)] 24)).below hBO (by have := rB.lt; simp; omega); have hwO : Below w.heap.size w wO := (hwB.alloc (Nat.le_of_lt rB.lt) _).trans (hBO.mono (by have := rB.lt; simp; omega)); have rOc0 := rO.c0; have rOc1 := rO.c1; have rOc2 := rO.c2; have rOc3 := rO.c3; have rOf0 := rO.fz 0; have rOf1 := rO.fz 1; have rOf2 := rO.fz 2; have rOf3 := rO.fz 3; simp only [sv]))
  all_goals (
    go_wp2
    first
     | (have q := FourS.set rO (fun i => d i || x i || y i)
        have qc0 := q.c0; have qc1 := q.c1; have qc2 := q.c2; have qc3 := q.c3
        refine bodyPost_ret (v := .tuple #[sv (fun i => d i || x i || y i), .bool true]) (by simp [results, Tryz.results182, go_sem, qc0, qc1, qc2, qc3, sv]) rfl ⟨rfl, Below.set4 hwO (by omega) _ _ _ _⟩)
     | (have q := (FourS.set rO (fun i => d i || x i || y i)).drew
        have qc0 := q.c0; have qc1 := q.c1; have qc2 := q.c2; have qc3 := q.c3
        refine bodyPost_ret (v := .tuple #[sv (fun i => d i || x i || y i), .bool true]) (by simp [results, Tryz.results182, go_sem, qc0, qc1, qc2, qc3, sv]) rfl ⟨rfl, (Below.set4 hwO (by omega) _ _ _ _).drew⟩)
  )
 ·unfold OfTo at *
  have HX := Lib.hid hx
  clear hx
  simp only [sv]
  go_wp2_with fail
  have sg5 := Four.new w4 24 (.int .u64 (wd g 0)) (.int .u64 (wd g 1)) (.int .u64 (wd g 2)) (.int .u64 (wd g 3))
  have sg5c0 := sg5.c0; have sg5c1 := sg5.c1; have sg5c2 := sg5.c2; have sg5c3 := sg5.c3
  go_region_with (first
   | (go_at_call 69; refine (HX.out _).mono ?_; rintro e wA ⟨rfl, hBA⟩; have hBA1 : Below (w4.alloc (.cells #[.int .u64 (wd g 0), .int .u64 (wd g 1), .int .u64 (wd g 2), .int .u64 (wd g 3)] 24)).heap.size (w4.alloc (.cells #[.int .u64 (wd g 0), .int .u64 (wd g 1), .int .u64 (wd g 2), .int .u64 (wd g 3)] 24)) wA := ((Below.refl _ _).drew).trans hBA; have rA := r5.below hBA1 r5.lt; have hwA : Below w.heap.size w wA := hw5.trans (hBA1.mono (by simp; omega)); have sgA := sg5.below hBA1 sg5.lt; have sgAc0 := sgA.c0; have sgAc1 := sgA.c1; have sgAc2 := sgA.c2; have sgAc3 := sgA.c3; have rAc0 := rA.c0; have rAc1 := rA.c1; have rAc2 := rA.c2; have rAc3 := rA.c3; have rAf0 := rA.fz 0; have rAf1 := rA.fz 1; have rAf2 := rA.fz 2; have rAf3 := rA.fz 3; simp only [sv])
   | (go_at_call 121; refine (or2_c g x (wA.heap.size) 2 _ 24 (by have := heap_new wA (.cells #[.int .u64 (wd g 0), .int .u64 (wd g 1), .int .u64 (wd g 2), .int .u64 (wd g 3), .int .u64 (wd x 0), .int .u64 (wd x 1), .int .u64 (wd x 2), .int .u64 (wd x 3)] 24); simpa using this)).mono ?_; rintro e wO ⟨rfl, hBO⟩; have rO := (rA.alloc (.cells #[.int .u64 (wd g 0), .int .u64 (wd g 1), .int .u64 (wd g 2), .int .u64 (wd g 3), .int .u64 (wd x 0), .int .u64 (wd x 1), .int .u64 (wd x 2), .int .u64 (wd x 3)] 24)).below hBO (by have := rA.lt; simp; omega); have hwO : Below w.heap.size w wO := (hwA.alloc (Nat.le_of_lt rA.lt) _).trans (hBO.mono (by have := rA.lt; simp; omega)); have rOc0 := rO.c0; have rOc1 := rO.c1; have rOc2 := rO.c2; have rOc3 := rO.c3; have rOf0 := rO.fz 0; have rOf1 := rO.fz 1; have rOf2 := rO.fz 2; have rOf3 := rO.fz 3; simp only [sv]))
  all_goals (
    go_wp2
    first
     | (have q := FourS.set rO (fun i => g i || x i)
        have qc0 := q.c0; have qc1 := q.c1; have qc2 := q.c2; have qc3 := q.c3
        refine bodyPost_ret (v := .tuple #[sv (fun i => g i || x i), .bool true]) (by simp [results, Tryz.results182, go_sem, qc0, qc1, qc2, qc3, sv]) rfl ⟨rfl, Below.set4 hwO (by omega) _ _ _ _⟩)
     | (have q := (FourS.set rO (fun i => g i || x i)).drew
        have qc0 := q.c0; have qc1 := q.c1; have qc2 := q.c2; have qc3 := q.c3
        refine bodyPost_ret (v := .tuple #[sv (fun i => g i || x i), .bool true]) (by simp [results, Tryz.results182, go_sem, qc0, qc1, qc2, qc3, sv]) rfl ⟨rfl, (Below.set4 hwO (by omega) _ _ _ _).drew⟩)
  )
 ·simp only [sv]
  go_wp2
  have q := (Four.set r4 (.int .u64 0) (.int .u64 0) (.int .u64 0) (.int .u64 0)).alloc (.cells #[.int .u64 (wd g 0), .int .u64 (wd g 1), .int .u64 (wd g 2), .int .u64 (wd g 3)] 24)
  have qc0 := q.c0; have qc1 := q.c1; have qc2 := q.c2; have qc3 := q.c3
  refine bodyPost_ret (v := .tuple #[.agg #[.int .u64 0, .int .u64 0, .int .u64 0, .int .u64 0], .bool false]) (by simp [results, Tryz.results182, go_sem, qc0, qc1, qc2, qc3]) rfl ⟨rfl, (Below.set4 hw4 (by omega) _ _ _ _).alloc (by simp [World.setCell]; omega) _⟩
theorem class_upper (u l d g : Nat → Bool) (hu : RangeTo 65 90 u) (hl : RangeTo 97 122 l) (hd : RangeTo 48 57 d) (hg : RangeTo 33 126 g) (w : World) :
  Calls Tryz.prog 182 #[.string ⟨#[117, 112, 112, 101, 114]⟩] w fun e w' => e = .returned (.tuple #[sv (u), .bool true]) ∧ Below w.heap.size w w' :=
 class_fam u l d g hu hl hd hg _ _ (Or.inl ⟨rfl, rfl⟩) w
theorem class_lower (u l d g : Nat → Bool) (hu : RangeTo 65 90 u) (hl : RangeTo 97 122 l) (hd : RangeTo 48 57 d) (hg : RangeTo 33 126 g) (w : World) :
  Calls Tryz.prog 182 #[.string ⟨#[108, 111, 119, 101, 114]⟩] w fun e w' => e = .returned (.tuple #[sv (l), .bool true]) ∧ Below w.heap.size w w' :=
 class_fam u l d g hu hl hd hg _ _ (Or.inr (Or.inl ⟨rfl, rfl⟩)) w
theorem class_digit (u l d g : Nat → Bool) (hu : RangeTo 65 90 u) (hl : RangeTo 97 122 l) (hd : RangeTo 48 57 d) (hg : RangeTo 33 126 g) (w : World) :
  Calls Tryz.prog 182 #[.string ⟨#[100, 105, 103, 105, 116]⟩] w fun e w' => e = .returned (.tuple #[sv (d), .bool true]) ∧ Below w.heap.size w w' :=
 class_fam u l d g hu hl hd hg _ _ (Or.inr (Or.inr (Or.inl ⟨rfl, rfl⟩))) w
theorem class_graph (u l d g : Nat → Bool) (hu : RangeTo 65 90 u) (hl : RangeTo 97 122 l) (hd : RangeTo 48 57 d) (hg : RangeTo 33 126 g) (w : World) :
  Calls Tryz.prog 182 #[.string ⟨#[103, 114, 97, 112, 104]⟩] w fun e w' => e = .returned (.tuple #[sv (g), .bool true]) ∧ Below w.heap.size w w' :=
 class_fam u l d g hu hl hd hg _ _ (Or.inr (Or.inr (Or.inr (Or.inl ⟨rfl, rfl⟩)))) w
theorem class_alpha (u l d g : Nat → Bool) (hu : RangeTo 65 90 u) (hl : RangeTo 97 122 l) (hd : RangeTo 48 57 d) (hg : RangeTo 33 126 g) (w : World) :
  Calls Tryz.prog 182 #[.string ⟨#[97, 108, 112, 104, 97]⟩] w fun e w' => e = .returned (.tuple #[sv (fun i => u i || l i), .bool true]) ∧ Below w.heap.size w w' :=
 class_fam u l d g hu hl hd hg _ _ (Or.inr (Or.inr (Or.inr (Or.inr (Or.inl ⟨rfl, rfl⟩))))) w
theorem class_alnum (u l d g : Nat → Bool) (hu : RangeTo 65 90 u) (hl : RangeTo 97 122 l) (hd : RangeTo 48 57 d) (hg : RangeTo 33 126 g) (w : World) :
  Calls Tryz.prog 182 #[.string ⟨#[97, 108, 110, 117, 109]⟩] w fun e w' => e = .returned (.tuple #[sv (fun i => u i || l i || d i), .bool true]) ∧ Below w.heap.size w w' :=
 class_fam u l d g hu hl hd hg _ _ (Or.inr (Or.inr (Or.inr (Or.inr (Or.inr (Or.inl ⟨rfl, rfl⟩)))))) w
theorem class_blank (u l d g : Nat → Bool) (hu : RangeTo 65 90 u) (hl : RangeTo 97 122 l) (hd : RangeTo 48 57 d) (hg : RangeTo 33 126 g) (b : Nat → Bool) (HB : Hid (OfTo ⟨#[9, 32]⟩ b)) (w : World) :
  Calls Tryz.prog 182 #[.string ⟨#[98, 108, 97, 110, 107]⟩] w fun e w' => e = .returned (.tuple #[sv (b), .bool true]) ∧ Below w.heap.size w w' :=
 class_fam u l d g hu hl hd hg _ _ (Or.inr (Or.inr (Or.inr (Or.inr (Or.inr (Or.inr (Or.inl ⟨b, HB, rfl, rfl⟩))))))) w
theorem class_space (u l d g : Nat → Bool) (hu : RangeTo 65 90 u) (hl : RangeTo 97 122 l) (hd : RangeTo 48 57 d) (hg : RangeTo 33 126 g) (x y : Nat → Bool) (hx : RangeTo 9 13 x) (hy : OfTo ⟨#[32]⟩ y) (w : World) :
  Calls Tryz.prog 182 #[.string ⟨#[115, 112, 97, 99, 101]⟩] w fun e w' => e = .returned (.tuple #[sv (fun i => x i || y i), .bool true]) ∧ Below w.heap.size w w' :=
 class_fam u l d g hu hl hd hg _ _ (Or.inr (Or.inr (Or.inr (Or.inr (Or.inr (Or.inr (Or.inr (Or.inl ⟨x, y, hx, hy, rfl, rfl⟩)))))))) w
theorem class_cntrl (u l d g : Nat → Bool) (hu : RangeTo 65 90 u) (hl : RangeTo 97 122 l) (hd : RangeTo 48 57 d) (hg : RangeTo 33 126 g) (x y : Nat → Bool) (hx : RangeTo 0 31 x) (hy : RangeTo 127 127 y) (w : World) :
  Calls Tryz.prog 182 #[.string ⟨#[99, 110, 116, 114, 108]⟩] w fun e w' => e = .returned (.tuple #[sv (fun i => x i || y i), .bool true]) ∧ Below w.heap.size w w' :=
 class_fam u l d g hu hl hd hg _ _ (Or.inr (Or.inr (Or.inr (Or.inr (Or.inr (Or.inr (Or.inr (Or.inr (Or.inl ⟨x, y, hx, hy, rfl, rfl⟩))))))))) w
theorem class_xdigit (u l d g : Nat → Bool) (hu : RangeTo 65 90 u) (hl : RangeTo 97 122 l) (hd : RangeTo 48 57 d) (hg : RangeTo 33 126 g) (x y : Nat → Bool) (hx : RangeTo 65 70 x) (hy : RangeTo 97 102 y) (w : World) :
  Calls Tryz.prog 182 #[.string ⟨#[120, 100, 105, 103, 105, 116]⟩] w fun e w' => e = .returned (.tuple #[sv (fun i => d i || x i || y i), .bool true]) ∧ Below w.heap.size w w' :=
 class_fam u l d g hu hl hd hg _ _ (Or.inr (Or.inr (Or.inr (Or.inr (Or.inr (Or.inr (Or.inr (Or.inr (Or.inr (Or.inl ⟨x, y, hx, hy, rfl, rfl⟩)))))))))) w
theorem class_print (u l d g : Nat → Bool) (hu : RangeTo 65 90 u) (hl : RangeTo 97 122 l) (hd : RangeTo 48 57 d) (hg : RangeTo 33 126 g) (x : Nat → Bool) (hx : OfTo ⟨#[32]⟩ x) (w : World) :
  Calls Tryz.prog 182 #[.string ⟨#[112, 114, 105, 110, 116]⟩] w fun e w' => e = .returned (.tuple #[sv (fun i => g i || x i), .bool true]) ∧ Below w.heap.size w w' :=
 class_fam u l d g hu hl hd hg _ _ (Or.inr (Or.inr (Or.inr (Or.inr (Or.inr (Or.inr (Or.inr (Or.inr (Or.inr (Or.inr (Or.inl ⟨x, hx, rfl, rfl⟩))))))))))) w
theorem class_none (u l d g : Nat → Bool) (hu : RangeTo 65 90 u) (hl : RangeTo 97 122 l) (hd : RangeTo 48 57 d) (hg : RangeTo 33 126 g) (name : ByteArray) (hupper : (name.toList == ([117, 112, 112, 101, 114] : List UInt8)) = false) (hlower : (name.toList == ([108, 111, 119, 101, 114] : List UInt8)) = false) (halpha : (name.toList == ([97, 108, 112, 104, 97] : List UInt8)) = false) (hdigit : (name.toList == ([100, 105, 103, 105, 116] : List UInt8)) = false) (halnum : (name.toList == ([97, 108, 110, 117, 109] : List UInt8)) = false) (hxdigit : (name.toList == ([120, 100, 105, 103, 105, 116] : List UInt8)) = false) (hblank : (name.toList == ([98, 108, 97, 110, 107] : List UInt8)) = false) (hspace : (name.toList == ([115, 112, 97, 99, 101] : List UInt8)) = false) (hcntrl : (name.toList == ([99, 110, 116, 114, 108] : List UInt8)) = false) (hgraph : (name.toList == ([103, 114, 97, 112, 104] : List UInt8)) = false) (hprint : (name.toList == ([112, 114, 105, 110, 116] : List UInt8)) = false) (hpunct : (name.toList == ([112, 117, 110, 99, 116] : List UInt8)) = false) (w : World) :
  Calls Tryz.prog 182 #[.string name] w fun e w' => e = .returned (.tuple #[.agg #[.int .u64 0, .int .u64 0, .int .u64 0, .int .u64 0], .bool false]) ∧ Below w.heap.size w w' :=
 class_fam u l d g hu hl hd hg _ _ (Or.inr (Or.inr (Or.inr (Or.inr (Or.inr (Or.inr (Or.inr (Or.inr (Or.inr (Or.inr (Or.inr (⟨hupper, hlower, halpha, hdigit, halnum, hxdigit, hblank, hspace, hcntrl, hgraph, hprint, hpunct, rfl⟩)))))))))))) w
end Go.Proofs.YtdjcgjkbecncaaaGreatDoor
namespace Go.Proofs.YtdjcgjkbecncaaaGreatDoor
open Go.RowKit
theorem name_of {x : ByteArray} {l : List UInt8} (h : (x.toList == l) = true) : x = ⟨l.toArray⟩ := by
 rw [ByteArray.toList_eq] at h
 obtain ⟨⟨d⟩⟩ := x
 simp at h
 subst h
 rfl
def clsV (l : List UInt8) : (Nat → Bool) × Bool :=
 if l == [117, 112, 112, 101, 114] then (rg 65 90, true) else
 if l == [108, 111, 119, 101, 114] then (rg 97 122, true) else
 if l == [97, 108, 112, 104, 97] then (fun i => rg 65 90 i || rg 97 122 i, true) else
 if l == [100, 105, 103, 105, 116] then (rg 48 57, true) else
 if l == [97, 108, 110, 117, 109] then (fun i => (rg 65 90 i || rg 97 122 i) || rg 48 57 i, true) else
 if l == [120, 100, 105, 103, 105, 116] then (fun i => rg 48 57 i || (rg 65 70 i || rg 97 102 i), true) else
 if l == [98, 108, 97, 110, 107] then (inS ⟨#[9, 32]⟩ 2, true) else
 if l == [115, 112, 97, 99, 101] then (fun i => rg 9 13 i || inS ⟨#[32]⟩ 1 i, true) else
 if l == [99, 110, 116, 114, 108] then (fun i => rg 0 31 i || rg 127 127 i, true) else
 if l == [103, 114, 97, 112, 104] then (rg 33 126, true) else
 if l == [112, 114, 105, 110, 116] then (rg 32 126, true) else
 if l == [112, 117, 110, 99, 116] then (fun i => rg 33 126 i && !((rg 65 90 i || rg 97 122 i) || rg 48 57 i), true) else
 (fun _ => false, false)
end Go.Proofs.YtdjcgjkbecncaaaGreatDoor
namespace Go.Proofs.YtdjcgjkbecncaaaGreatDoor
open Go.RowKit
theorem hu' : RangeTo 65 90 (rg 65 90) := rangeTo 65 90 (by omega) (by omega)
theorem hl' : RangeTo 97 122 (rg 97 122) := rangeTo 97 122 (by omega) (by omega)
theorem hd' : RangeTo 48 57 (rg 48 57) := rangeTo 48 57 (by omega) (by omega)
theorem hg' : RangeTo 33 126 (rg 33 126) := rangeTo 33 126 (by omega) (by omega)
theorem class_all (x : ByteArray) (w : World) :
  Calls Tryz.prog 182 #[.string x] w fun e w' => e = .returned (.tuple #[sv (clsV x.data.toList).1, .bool (clsV x.data.toList).2]) ∧ Below w.heap.size w w' := by
 by_cases h0 : (x.toList == ([117, 112, 112, 101, 114] : List UInt8)) = true
 ·obtain rfl := name_of h0
  have := class_upper _ _ _ _ hu' hl' hd' hg' w
  exact this.mono fun e w' ⟨he, hB⟩ => ⟨he.trans (congrArg (fun s => Ending.returned (.tuple #[s, .bool true])) (sv_congr (fun i hi => rfl))), hB⟩
 replace h0 : (x.toList == ([117, 112, 112, 101, 114] : List UInt8)) = false := by simpa using h0
 by_cases h1 : (x.toList == ([108, 111, 119, 101, 114] : List UInt8)) = true
 ·obtain rfl := name_of h1
  have := class_lower _ _ _ _ hu' hl' hd' hg' w
  exact this.mono fun e w' ⟨he, hB⟩ => ⟨he.trans (congrArg (fun s => Ending.returned (.tuple #[s, .bool true])) (sv_congr (fun i hi => rfl))), hB⟩
 replace h1 : (x.toList == ([108, 111, 119, 101, 114] : List UInt8)) = false := by simpa using h1
 by_cases h2 : (x.toList == ([97, 108, 112, 104, 97] : List UInt8)) = true
 ·obtain rfl := name_of h2
  have := class_alpha _ _ _ _ hu' hl' hd' hg' w
  exact this.mono fun e w' ⟨he, hB⟩ => ⟨he.trans (congrArg (fun s => Ending.returned (.tuple #[s, .bool true])) (sv_congr (fun i hi => rfl))), hB⟩
 replace h2 : (x.toList == ([97, 108, 112, 104, 97] : List UInt8)) = false := by simpa using h2
 by_cases h3 : (x.toList == ([100, 105, 103, 105, 116] : List UInt8)) = true
 ·obtain rfl := name_of h3
  have := class_digit _ _ _ _ hu' hl' hd' hg' w
  exact this.mono fun e w' ⟨he, hB⟩ => ⟨he.trans (congrArg (fun s => Ending.returned (.tuple #[s, .bool true])) (sv_congr (fun i hi => rfl))), hB⟩
 replace h3 : (x.toList == ([100, 105, 103, 105, 116] : List UInt8)) = false := by simpa using h3
 by_cases h4 : (x.toList == ([97, 108, 110, 117, 109] : List UInt8)) = true
 ·obtain rfl := name_of h4
  have := class_alnum _ _ _ _ hu' hl' hd' hg' w
  exact this.mono fun e w' ⟨he, hB⟩ => ⟨he.trans (congrArg (fun s => Ending.returned (.tuple #[s, .bool true])) (sv_congr (fun i hi => rfl))), hB⟩
 replace h4 : (x.toList == ([97, 108, 110, 117, 109] : List UInt8)) = false := by simpa using h4
 by_cases h5 : (x.toList == ([120, 100, 105, 103, 105, 116] : List UInt8)) = true
 ·obtain rfl := name_of h5
  have := class_xdigit _ _ _ _ hu' hl' hd' hg' _ _ (rangeTo 65 70 (by omega) (by omega)) (rangeTo 97 102 (by omega) (by omega)) w
  exact this.mono fun e w' ⟨he, hB⟩ => ⟨he.trans (congrArg (fun s => Ending.returned (.tuple #[s, .bool true])) (sv_congr (fun i hi => Bool.or_assoc _ _ _))), hB⟩
 replace h5 : (x.toList == ([120, 100, 105, 103, 105, 116] : List UInt8)) = false := by simpa using h5
 by_cases h6 : (x.toList == ([98, 108, 97, 110, 107] : List UInt8)) = true
 ·obtain rfl := name_of h6
  have := class_blank _ _ _ _ hu' hl' hd' hg' _ (Lib.hid (ofTo ⟨#[9, 32]⟩ (by decide))) w
  exact this.mono fun e w' ⟨he, hB⟩ => ⟨he.trans (congrArg (fun s => Ending.returned (.tuple #[s, .bool true])) (sv_congr (fun i hi => rfl))), hB⟩
 replace h6 : (x.toList == ([98, 108, 97, 110, 107] : List UInt8)) = false := by simpa using h6
 by_cases h7 : (x.toList == ([115, 112, 97, 99, 101] : List UInt8)) = true
 ·obtain rfl := name_of h7
  have := class_space _ _ _ _ hu' hl' hd' hg' _ _ (rangeTo 9 13 (by omega) (by omega)) (ofTo ⟨#[32]⟩ (by decide)) w
  exact this.mono fun e w' ⟨he, hB⟩ => ⟨he.trans (congrArg (fun s => Ending.returned (.tuple #[s, .bool true])) (sv_congr (fun i hi => rfl))), hB⟩
 replace h7 : (x.toList == ([115, 112, 97, 99, 101] : List UInt8)) = false := by simpa using h7
 by_cases h8 : (x.toList == ([99, 110, 116, 114, 108] : List UInt8)) = true
 ·obtain rfl := name_of h8
  have := class_cntrl _ _ _ _ hu' hl' hd' hg' _ _ (rangeTo 0 31 (by omega) (by omega)) (rangeTo 127 127 (by omega) (by omega)) w
  exact this.mono fun e w' ⟨he, hB⟩ => ⟨he.trans (congrArg (fun s => Ending.returned (.tuple #[s, .bool true])) (sv_congr (fun i hi => rfl))), hB⟩
 replace h8 : (x.toList == ([99, 110, 116, 114, 108] : List UInt8)) = false := by simpa using h8
 by_cases h9 : (x.toList == ([103, 114, 97, 112, 104] : List UInt8)) = true
 ·obtain rfl := name_of h9
  have := class_graph _ _ _ _ hu' hl' hd' hg' w
  exact this.mono fun e w' ⟨he, hB⟩ => ⟨he.trans (congrArg (fun s => Ending.returned (.tuple #[s, .bool true])) (sv_congr (fun i hi => rfl))), hB⟩
 replace h9 : (x.toList == ([103, 114, 97, 112, 104] : List UInt8)) = false := by simpa using h9
 by_cases h10 : (x.toList == ([112, 114, 105, 110, 116] : List UInt8)) = true
 ·obtain rfl := name_of h10
  have := class_print _ _ _ _ hu' hl' hd' hg' _ (ofTo ⟨#[32]⟩ (by decide)) w
  exact this.mono fun e w' ⟨he, hB⟩ => ⟨he.trans (congrArg (fun s => Ending.returned (.tuple #[s, .bool true])) (sv_congr (by decide +kernel))), hB⟩
 replace h10 : (x.toList == ([112, 114, 105, 110, 116] : List UInt8)) = false := by simpa using h10
 by_cases h11 : (x.toList == ([112, 117, 110, 99, 116] : List UInt8)) = true
 ·obtain rfl := name_of h11
  have := punct_c w
  exact this.mono fun e w' ⟨he, hB⟩ => ⟨he.trans (congrArg (fun s => Ending.returned (.tuple #[s, .bool true])) (sv_congr (by decide +kernel))), hB⟩
 replace h11 : (x.toList == ([112, 117, 110, 99, 116] : List UInt8)) = false := by simpa using h11
 have := class_none _ _ _ _ hu' hl' hd' hg' x h0 h1 h2 h3 h4 h5 h6 h7 h8 h9 h10 h11 w
 rw [ByteArray.toList_eq] at *
 have e : clsV x.data.toList = (fun _ => false, false) := by simp only [clsV, h0, h1, h2, h3, h4, h5, h6, h7, h8, h9, h10, h11]; rfl
 rw [e]
 exact this.mono fun e w' ⟨he, hB⟩ => ⟨by rw [he]; show _ = Ending.returned (.tuple #[sv (fun _ => false), .bool false]); rw [sv_none], hB⟩
end Go.Proofs.YtdjcgjkbecncaaaGreatDoor
