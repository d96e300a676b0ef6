/- Or of some sets, and Class. -/
import Derived.Test.YtdjcgjkbecncaaaGreatDoorJSetE
import Derived.Deep.RegionHeld3
import Derived.Test.YtdjcgjkbecncaaaGreatDoorJSetQ
import Derived.Test.YtdjcgjkbecncaaaGreatDoorJRxG
import Derived.Laws.EntriesVeiled
import Derived.Lib.ItoaNum
set_option linter.unusedVariables false
set_option linter.unusedSimpArgs false
set_option maxRecDepth 100000
set_option maxHeartbeats 40000000
namespace Go.Proofs.YtdjcgjkbecncaaaGreatDoor
open Go.RowKit
theorem or2_c (f g : Nat → Bool) (b cap : Nat) (w : World) (t : TypeId) (hb : w.heap[b]? = some (.cells #[.int .u64 (wd f 0), .int .u64 (wd f 1), .int .u64 (wd f 2), .int .u64 (wd f 3), .int .u64 (wd g 0), .int .u64 (wd g 1), .int .u64 (wd g 2), .int .u64 (wd g 3)] t (0, 0))) :
  Calls Tryz.prog 121 #[.slice (some ⟨b, 0, none⟩) 2 cap] w fun e w' => e = .returned (sv (fun i => f i || g i)) ∧ Below w.heap.size w w' := by
 have hc : ∀ j, w.cell? ⟨b, j, none⟩ = (#[.int .u64 (wd f 0), .int .u64 (wd f 1), .int .u64 (wd f 2), .int .u64 (wd f 3), .int .u64 (wd g 0), .int .u64 (wd g 1), .int .u64 (wd g 2), .int .u64 (wd g 3)] : Array Value)[j]? := fun j => by simp [World.cell?, hb]
 refine (or_go (fun i => if i = 0 then f else g) 2 cap b (by omega) w (heap_lt hb) (fun i hi => ?_)).mono ?_
 ·rcases (by omega : i = 0 ∨ i = 1) with rfl | rfl <;> exact ⟨hc _, hc _, hc _, hc _⟩
 ·rintro e w' ⟨rfl, hB⟩
  exact ⟨congrArg Ending.returned (sv_congr fun i _ => by simp [anyF]), hB⟩
theorem or3_c (f g h : Nat → Bool) (b cap : Nat) (w : World) (t : TypeId) (hb : w.heap[b]? = some (.cells #[.int .u64 (wd f 0), .int .u64 (wd f 1), .int .u64 (wd f 2), .int .u64 (wd f 3), .int .u64 (wd g 0), .int .u64 (wd g 1), .int .u64 (wd g 2), .int .u64 (wd g 3), .int .u64 (wd h 0), .int .u64 (wd h 1), .int .u64 (wd h 2), .int .u64 (wd h 3)] t (0, 0))) :
  Calls Tryz.prog 121 #[.slice (some ⟨b, 0, none⟩) 3 cap] w fun e w' => e = .returned (sv (fun i => f i || g i || h i)) ∧ Below w.heap.size w w' := by
 have hc : ∀ j, w.cell? ⟨b, j, none⟩ = (#[.int .u64 (wd f 0), .int .u64 (wd f 1), .int .u64 (wd f 2), .int .u64 (wd f 3), .int .u64 (wd g 0), .int .u64 (wd g 1), .int .u64 (wd g 2), .int .u64 (wd g 3), .int .u64 (wd h 0), .int .u64 (wd h 1), .int .u64 (wd h 2), .int .u64 (wd h 3)] : Array Value)[j]? := fun j => by simp [World.cell?, hb]
 refine (or_go (fun i => if i = 0 then f else if i = 1 then g else h) 3 cap b (by omega) w (heap_lt hb) (fun i hi => ?_)).mono ?_
 ·rcases (by omega : i = 0 ∨ i = 1 ∨ i = 2) with rfl | rfl | rfl <;> exact ⟨hc _, hc _, hc _, hc _⟩
 ·rintro e w' ⟨rfl, hB⟩
  exact ⟨congrArg Ending.returned (sv_congr fun i _ => by simp [anyF]), hB⟩
theorem or4_c (f g h l : Nat → Bool) (b cap : Nat) (w : World) (t : TypeId) (hb : w.heap[b]? = some (.cells #[.int .u64 (wd f 0), .int .u64 (wd f 1), .int .u64 (wd f 2), .int .u64 (wd f 3), .int .u64 (wd g 0), .int .u64 (wd g 1), .int .u64 (wd g 2), .int .u64 (wd g 3), .int .u64 (wd h 0), .int .u64 (wd h 1), .int .u64 (wd h 2), .int .u64 (wd h 3), .int .u64 (wd l 0), .int .u64 (wd l 1), .int .u64 (wd l 2), .int .u64 (wd l 3)] t (0, 0))) :
  Calls Tryz.prog 121 #[.slice (some ⟨b, 0, none⟩) 4 cap] w fun e w' => e = .returned (sv (fun i => f i || g i || h i || l i)) ∧ Below w.heap.size w w' := by
 have hc : ∀ j, w.cell? ⟨b, j, none⟩ = (#[.int .u64 (wd f 0), .int .u64 (wd f 1), .int .u64 (wd f 2), .int .u64 (wd f 3), .int .u64 (wd g 0), .int .u64 (wd g 1), .int .u64 (wd g 2), .int .u64 (wd g 3), .int .u64 (wd h 0), .int .u64 (wd h 1), .int .u64 (wd h 2), .int .u64 (wd h 3), .int .u64 (wd l 0), .int .u64 (wd l 1), .int .u64 (wd l 2), .int .u64 (wd l 3)] : Array Value)[j]? := fun j => by simp [World.cell?, hb]
 refine (or_go (fun i => if i = 0 then f else if i = 1 then g else if i = 2 then h else l) 4 cap b (by omega) w (heap_lt hb) (fun i hi => ?_)).mono ?_
 ·rcases (by omega : i = 0 ∨ i = 1 ∨ i = 2 ∨ i = 3) with rfl | rfl | rfl | rfl <;> exact ⟨hc _, hc _, hc _, hc _⟩
 ·rintro e w' ⟨rfl, hB⟩
  exact ⟨congrArg Ending.returned (sv_congr fun i _ => by simp [anyF]), hB⟩
def rg (a b : Nat) (i : Nat) : Bool := decide (a ≤ i) && decide (i ≤ b)
def RangeTo (a b : Int) (f : Nat → Bool) : Prop := ∀ w, Calls Tryz.prog 96 #[.int .u8 a, .int .u8 b] w fun e w' => e = .returned (sv f) ∧ Below w.heap.size w w'
def OfTo (s : ByteArray) (f : Nat → Bool) : Prop := ∀ w, Calls Tryz.prog 69 #[.string s] w fun e w' => e = .returned (sv f) ∧ Below w.heap.size w w'
theorem rangeTo (a b : Nat) (ha : a < 256) (hb : b < 256) : RangeTo a b (rg a b) := fun w => range_c a b ha hb w
theorem ofTo (s : ByteArray) (hs : s.size < 9223372036854775807) : OfTo s (inS s s.size) := fun w => of_c s hs w
def NotTo (f g : Nat → Bool) : Prop := ∀ w, Calls Tryz.prog 93 #[sv f] w fun e w' => e = .returned (sv g) ∧ Below w.heap.size w w'
end Go.Proofs.YtdjcgjkbecncaaaGreatDoor
namespace Go.Proofs.YtdjcgjkbecncaaaGreatDoor
open Go.RowKit
theorem class_punct (u l d g : Nat → Bool) (hu : RangeTo 65 90 u) (hl : RangeTo 97 122 l) (hd : RangeTo 48 57 d) (hg : RangeTo 33 126 g) (n m : Nat → Bool) (hx : NotTo g n) (hy : NotTo (fun i => n i || u i || l i || d i) m) (w : World) :
  Calls Tryz.prog 182 #[.string ⟨#[112, 117, 110, 99, 116]⟩] w fun e w' => e = .returned (.tuple #[sv (m), .bool true]) ∧ Below w.heap.size w w' := by
 unfold RangeTo NotTo at *
 have HU := Lib.hid hu; have HL := Lib.hid hl; have HD := Lib.hid hd; have HG := Lib.hid hg
 have HX := Lib.hid hx; have HY := Lib.hid hy
 clear hu hl hd hg hx hy
 go_enter Tryz.func182, Tryz.ntmps182
 go_wp2_with fail
 refine (HU.out _).mono ?_
 rintro e w1 ⟨rfl, hB1⟩
 go_wp2_with fail
 refine (HL.out _).mono ?_
 rintro e w2 ⟨rfl, hB2⟩
 go_wp2_with fail
 refine (HD.out _).mono ?_
 rintro e w3 ⟨rfl, hB3⟩
 have r0 := Four.new w 24 (.int .u64 0) (.int .u64 0) (.int .u64 0) (.int .u64 0)
 have r1 := r0.below hB1 r0.lt
 have r2 := r1.below hB2 r1.lt
 have r3 := r2.below hB3 r2.lt
 have hw3 : Below w.heap.size w w3 := (((Below.refl _ w).alloc (Nat.le_refl _) _).trans (hB1.mono (by simp))).trans ((hB2.mono (Nat.le_of_lt r1.lt)).trans (hB3.mono (Nat.le_of_lt r2.lt)))
 have hlt3 := r3.lt
 clear r0 r1 r2 hB1 hB2 hB3
 simp only [sv]
 go_wp2_with fail
 refine (HG.out _).mono ?_
 rintro e w4 ⟨rfl, hB4⟩
 have su := ((Four.new w3 24 (.int .u64 (wd u 0)) (.int .u64 (wd u 1)) (.int .u64 (wd u 2)) (.int .u64 (wd u 3))).alloc (.cells #[.int .u64 (wd l 0), .int .u64 (wd l 1), .int .u64 (wd l 2), .int .u64 (wd l 3)] 24)).alloc (.cells #[.int .u64 (wd d 0), .int .u64 (wd d 1), .int .u64 (wd d 2), .int .u64 (wd d 3)] 24)
 have sl := (Four.new (w3.alloc (.cells #[.int .u64 (wd u 0), .int .u64 (wd u 1), .int .u64 (wd u 2), .int .u64 (wd u 3)] 24)) 24 (.int .u64 (wd l 0)) (.int .u64 (wd l 1)) (.int .u64 (wd l 2)) (.int .u64 (wd l 3))).alloc (.cells #[.int .u64 (wd d 0), .int .u64 (wd d 1), .int .u64 (wd d 2), .int .u64 (wd d 3)] 24)
 have sd := Four.new ((w3.alloc (.cells #[.int .u64 (wd u 0), .int .u64 (wd u 1), .int .u64 (wd u 2), .int .u64 (wd u 3)] 24)).alloc (.cells #[.int .u64 (wd l 0), .int .u64 (wd l 1), .int .u64 (wd l 2), .int .u64 (wd l 3)] 24)) 24 (.int .u64 (wd d 0)) (.int .u64 (wd d 1)) (.int .u64 (wd d 2)) (.int .u64 (wd d 3))
 have r4 := ((((r3.alloc (.cells #[.int .u64 (wd u 0), .int .u64 (wd u 1), .int .u64 (wd u 2), .int .u64 (wd u 3)] 24)).alloc (.cells #[.int .u64 (wd l 0), .int .u64 (wd l 1), .int .u64 (wd l 2), .int .u64 (wd l 3)] 24)).alloc (.cells #[.int .u64 (wd d 0), .int .u64 (wd d 1), .int .u64 (wd d 2), .int .u64 (wd d 3)] 24)).below hB4 (by simp; omega))
 have su4 := su.below hB4 su.lt
 have sl4 := sl.below hB4 sl.lt
 have sd4 := sd.below hB4 sd.lt
 rw [World.size_alloc] at sl4
 rw [World.size_alloc, World.size_alloc] at sd4
 have hw4 : Below w.heap.size w w4 := (((hw3.alloc (by omega) _).alloc (by simp; omega) _).alloc (by simp; omega) _).trans (hB4.mono (by simp; omega))
 have hlt4 := r4.lt
 have hlu4 := su4.lt
 have hll4 := sl4.lt
 have hld4 := sd4.lt
 clear su sl sd r3 hB4
 have r4c0 := r4.c0
 have r4c1 := r4.c1
 have r4c2 := r4.c2
 have r4c3 := r4.c3
 have su4c0 := su4.c0
 have su4c1 := su4.c1
 have su4c2 := su4.c2
 have su4c3 := su4.c3
 have sl4c0 := sl4.c0
 have sl4c1 := sl4.c1
 have sl4c2 := sl4.c2
 have sl4c3 := sl4.c3
 have sd4c0 := sd4.c0
 have sd4c1 := sd4.c1
 have sd4c2 := sd4.c2
 have sd4c3 := sd4.c3
 have r4f0 := r4.fz 0
 have r4f1 := r4.fz 1
 have r4f2 := r4.fz 2
 have r4f3 := r4.fz 3
 have sg5 := Four.new w4 24 (.int .u64 (wd g 0)) (.int .u64 (wd g 1)) (.int .u64 (wd g 2)) (.int .u64 (wd g 3))
 have hw5 : Below w.heap.size w (w4.alloc (.cells #[.int .u64 (wd g 0), .int .u64 (wd g 1), .int .u64 (wd g 2), .int .u64 (wd g 3)] 24)) := hw4.alloc (by omega) _
 have r5 := r4.alloc (.cells #[.int .u64 (wd g 0), .int .u64 (wd g 1), .int .u64 (wd g 2), .int .u64 (wd g 3)] 24)
 have r5c0 := r5.c0
 have r5c1 := r5.c1
 have r5c2 := r5.c2
 have r5c3 := r5.c3
 have su5 := su4.alloc (.cells #[.int .u64 (wd g 0), .int .u64 (wd g 1), .int .u64 (wd g 2), .int .u64 (wd g 3)] 24)
 have su5c0 := su5.c0
 have su5c1 := su5.c1
 have su5c2 := su5.c2
 have su5c3 := su5.c3
 have sl5 := sl4.alloc (.cells #[.int .u64 (wd g 0), .int .u64 (wd g 1), .int .u64 (wd g 2), .int .u64 (wd g 3)] 24)
 have sl5c0 := sl5.c0
 have sl5c1 := sl5.c1
 have sl5c2 := sl5.c2
 have sl5c3 := sl5.c3
 have sd5 := sd4.alloc (.cells #[.int .u64 (wd g 0), .int .u64 (wd g 1), .int .u64 (wd g 2), .int .u64 (wd g 3)] 24)
 have sd5c0 := sd5.c0
 have sd5c1 := sd5.c1
 have sd5c2 := sd5.c2
 have sd5c3 := sd5.c3
 have r5f0 := r5.fz 0
 have r5f1 := r5.fz 1
 have r5f2 := r5.fz 2
 have r5f3 := r5.fz 3
 simp only [sv]
 go_wp2_with fail
 have sg5 := Four.new w4 24 (.int .u64 (wd g 0)) (.int .u64 (wd g 1)) (.int .u64 (wd g 2)) (.int .u64 (wd g 3))
 have sg5c0 := sg5.c0; have sg5c1 := sg5.c1; have sg5c2 := sg5.c2; have sg5c3 := sg5.c3
 clear r4c0 r4c1 r4c2 r4c3 r5c0 r5c1 r5c2 r5c3 r4f0 r4f1 r4f2 r4f3 r5f0 r5f1 r5f2 r5f3 su4c0 su4c1 su4c2 su4c3 sl4c0 sl4c1 sl4c2 sl4c3 sd4c0 sd4c1 sd4c2 sd4c3 hw3 hw4 r4 su4 sl4 sd4 su5 sl5 sd5 sg5 HU HL HD HG
 go_region_held3 (fun w' => (w'.cell? ⟨w3.heap.size, 0, none⟩ = some (.int .u64 (wd u 0)) ∧ w'.cell? ⟨w3.heap.size, 1, none⟩ = some (.int .u64 (wd u 1)) ∧ w'.cell? ⟨w3.heap.size, 2, none⟩ = some (.int .u64 (wd u 2)) ∧ w'.cell? ⟨w3.heap.size, 3, none⟩ = some (.int .u64 (wd u 3)) ∧ w'.cell? ⟨(w3.heap.size + 1), 0, none⟩ = some (.int .u64 (wd l 0)) ∧ w'.cell? ⟨(w3.heap.size + 1), 1, none⟩ = some (.int .u64 (wd l 1)) ∧ w'.cell? ⟨(w3.heap.size + 1), 2, none⟩ = some (.int .u64 (wd l 2)) ∧ w'.cell? ⟨(w3.heap.size + 1), 3, none⟩ = some (.int .u64 (wd l 3)) ∧ w'.cell? ⟨(w3.heap.size + 1 + 1), 0, none⟩ = some (.int .u64 (wd d 0)) ∧ w'.cell? ⟨(w3.heap.size + 1 + 1), 1, none⟩ = some (.int .u64 (wd d 1)) ∧ w'.cell? ⟨(w3.heap.size + 1 + 1), 2, none⟩ = some (.int .u64 (wd d 2)) ∧ w'.cell? ⟨(w3.heap.size + 1 + 1), 3, none⟩ = some (.int .u64 (wd d 3)) ∧ w'.cell? ⟨w4.heap.size, 0, none⟩ = some (.int .u64 (wd g 0)) ∧ w'.cell? ⟨w4.heap.size, 1, none⟩ = some (.int .u64 (wd g 1)) ∧ w'.cell? ⟨w4.heap.size, 2, none⟩ = some (.int .u64 (wd g 2)) ∧ w'.cell? ⟨w4.heap.size, 3, none⟩ = some (.int .u64 (wd g 3))) ∧ (∃ v0 v1 v2 v3, Four w' w.heap.size 24 v0 v1 v2 v3) ∧ Below w.heap.size w w') (first | with_reducible assumption | ((repeat' apply And.intro) <;> first | with_reducible assumption | with_reducible exact cell_alloc1 _ (by with_reducible assumption) | with_reducible exact cell_set4 (by with_reducible assumption) (by omega) | exact ⟨_, _, _, _, (by with_reducible assumption)⟩ | exact ⟨_, _, _, _, Four.drew (by with_reducible assumption)⟩ | exact Below.drew (by with_reducible assumption) | exact ⟨_, _, _, _, Four.alloc (by with_reducible assumption) _⟩ | exact Below.alloc (by with_reducible assumption) (Below.size (by with_reducible assumption)) _ | exact ⟨_, _, _, _, Four.set (by with_reducible assumption) _ _ _ _⟩ | exact Below.set4 (by with_reducible assumption) (Nat.le_refl _) _ _ _ _ | go_keep))
  (first
   | (go_at_call_of 93 (wd g 0); have hh := ‹_ ∧ (∃ v0 v1 v2 v3, Four _ _ _ v0 v1 v2 v3) ∧ Below _ _ _›; refine (HX.out _).mono ?_; rintro e wN ⟨rfl, hBN⟩; obtain ⟨⟨c0, c1, c2, c3, c4, c5, c6, c7, c8, c9, c10, c11, c12, c13, c14, c15⟩, ⟨v0, v1, v2, v3, hr⟩, hb⟩ := hh; have c0 := cell_keep hBN c0; have c1 := cell_keep hBN c1; have c2 := cell_keep hBN c2; have c3 := cell_keep hBN c3; have c4 := cell_keep hBN c4; have c5 := cell_keep hBN c5; have c6 := cell_keep hBN c6; have c7 := cell_keep hBN c7; have c8 := cell_keep hBN c8; have c9 := cell_keep hBN c9; have c10 := cell_keep hBN c10; have c11 := cell_keep hBN c11; have c12 := cell_keep hBN c12; have c13 := cell_keep hBN c13; have c14 := cell_keep hBN c14; have c15 := cell_keep hBN c15; have hr := hr.below hBN hr.lt; have hb := hb.trans (hBN.mono hb.size); clear hBN; (try clear su5c0 su5c1 su5c2 su5c3 sl5c0 sl5c1 sl5c2 sl5c3 sd5c0 sd5c1 sd5c2 sd5c3 sg5c0 sg5c1 sg5c2 sg5c3 r5 hw5); have hrc0 := hr.c0; have hrc1 := hr.c1; have hrc2 := hr.c2; have hrc3 := hr.c3; have hrf0 := hr.fz 0; have hrf1 := hr.fz 1; have hrf2 := hr.fz 2; have hrf3 := hr.fz 3; simp only [sv])
   | (go_at_call 121; have hh := ‹_ ∧ (∃ v0 v1 v2 v3, Four _ _ _ v0 v1 v2 v3) ∧ Below _ _ _›; refine (or4_c n u l d _ 4 _ 24 (by have := heap_new wN (.cells #[.int .u64 (wd n 0), .int .u64 (wd n 1), .int .u64 (wd n 2), .int .u64 (wd n 3), .int .u64 (wd u 0), .int .u64 (wd u 1), .int .u64 (wd u 2), .int .u64 (wd u 3), .int .u64 (wd l 0), .int .u64 (wd l 1), .int .u64 (wd l 2), .int .u64 (wd l 3), .int .u64 (wd d 0), .int .u64 (wd d 1), .int .u64 (wd d 2), .int .u64 (wd d 3)] 24); simpa using this)).mono ?_; rintro e wN ⟨rfl, hBN⟩; obtain ⟨⟨c0, c1, c2, c3, c4, c5, c6, c7, c8, c9, c10, c11, c12, c13, c14, c15⟩, ⟨v0, v1, v2, v3, hr⟩, hb⟩ := hh; have c0 := cell_keep hBN c0; have c1 := cell_keep hBN c1; have c2 := cell_keep hBN c2; have c3 := cell_keep hBN c3; have c4 := cell_keep hBN c4; have c5 := cell_keep hBN c5; have c6 := cell_keep hBN c6; have c7 := cell_keep hBN c7; have c8 := cell_keep hBN c8; have c9 := cell_keep hBN c9; have c10 := cell_keep hBN c10; have c11 := cell_keep hBN c11; have c12 := cell_keep hBN c12; have c13 := cell_keep hBN c13; have c14 := cell_keep hBN c14; have c15 := cell_keep hBN c15; have hr := hr.below hBN hr.lt; have hb := hb.trans (hBN.mono hb.size); clear hBN; (try clear su5c0 su5c1 su5c2 su5c3 sl5c0 sl5c1 sl5c2 sl5c3 sd5c0 sd5c1 sd5c2 sd5c3 sg5c0 sg5c1 sg5c2 sg5c3 r5 hw5); have hrc0 := hr.c0; have hrc1 := hr.c1; have hrc2 := hr.c2; have hrc3 := hr.c3; have hrf0 := hr.fz 0; have hrf1 := hr.fz 1; have hrf2 := hr.fz 2; have hrf3 := hr.fz 3; simp only [sv])
   | (go_at_call 93; have hh := ‹_ ∧ (∃ v0 v1 v2 v3, Four _ _ _ v0 v1 v2 v3) ∧ Below _ _ _›; refine (HY.out _).mono ?_; rintro e wN ⟨rfl, hBN⟩; obtain ⟨⟨c0, c1, c2, c3, c4, c5, c6, c7, c8, c9, c10, c11, c12, c13, c14, c15⟩, ⟨v0, v1, v2, v3, hr⟩, hb⟩ := hh; have c0 := cell_keep hBN c0; have c1 := cell_keep hBN c1; have c2 := cell_keep hBN c2; have c3 := cell_keep hBN c3; have c4 := cell_keep hBN c4; have c5 := cell_keep hBN c5; have c6 := cell_keep hBN c6; have c7 := cell_keep hBN c7; have c8 := cell_keep hBN c8; have c9 := cell_keep hBN c9; have c10 := cell_keep hBN c10; have c11 := cell_keep hBN c11; have c12 := cell_keep hBN c12; have c13 := cell_keep hBN c13; have c14 := cell_keep hBN c14; have c15 := cell_keep hBN c15; have hr := hr.below hBN hr.lt; have hb := hb.trans (hBN.mono hb.size); clear hBN; (try clear su5c0 su5c1 su5c2 su5c3 sl5c0 sl5c1 sl5c2 sl5c3 sd5c0 sd5c1 sd5c2 sd5c3 sg5c0 sg5c1 sg5c2 sg5c3 r5 hw5); have hrc0 := hr.c0; have hrc1 := hr.c1; have hrc2 := hr.c2; have hrc3 := hr.c3; have hrf0 := hr.fz 0; have hrf1 := hr.fz 1; have hrf2 := hr.fz 2; have hrf3 := hr.fz 3; simp only [sv]))
 all_goals (
   go_wp2
   first
    | (have q := FourS.set hr (m)
       have qc0 := q.c0; have qc1 := q.c1; have qc2 := q.c2; have qc3 := q.c3
       refine bodyPost_ret (v := .tuple #[sv (m), .bool true]) (by simp [results, Tryz.results182, go_sem, qc0, qc1, qc2, qc3, sv]) rfl ⟨rfl, Below.set4 hb (by omega) _ _ _ _⟩)
    | (have q := (FourS.set hr (m)).drew
       have qc0 := q.c0; have qc1 := q.c1; have qc2 := q.c2; have qc3 := q.c3
       refine bodyPost_ret (v := .tuple #[sv (m), .bool true]) (by simp [results, Tryz.results182, go_sem, qc0, qc1, qc2, qc3, sv]) rfl ⟨rfl, (Below.set4 hb (by omega) _ _ _ _).drew⟩)
 )
end Go.Proofs.YtdjcgjkbecncaaaGreatDoor
namespace Go.Proofs.YtdjcgjkbecncaaaGreatDoor
open Go.RowKit
structure Fit (w : World) : Prop where
 tab : TabAt 0 Lib.deBruijn64tab w
 pos : 0 < w.heap.size
theorem Fit.below {w w' : World} (h : Fit w) (hB : Below w.heap.size w w') : Fit w' := ⟨TabAt.below h.tab hB h.pos, Nat.lt_of_lt_of_le h.pos hB.size⟩
theorem Fit.alloc {w : World} (h : Fit w) (o : Obj) : Fit (w.alloc o) := h.below ((Below.refl _ w).alloc (Nat.le_refl _) o)
def punctF (i : Nat) : Bool := !((!rg 33 126 i) || rg 65 90 i || rg 97 122 i || rg 48 57 i)
theorem bytes_fit (f : Nat → Bool) (w : World) (hw : Fit w) : Calls Tryz.prog 24 #[sv f] w fun e w' => e = .returned (.string (bytesOf f)) ∧ Below w.heap.size w w' := bytes_c f w hw.tab hw.pos
theorem punct_c (w : World) : Calls Tryz.prog 182 #[.string ⟨#[112, 117, 110, 99, 116]⟩] w fun e w' => e = .returned (.tuple #[sv punctF, .bool true]) ∧ Below w.heap.size w w' :=
 class_punct (rg 65 90) (rg 97 122) (rg 48 57) (rg 33 126) (rangeTo 65 90 (by omega) (by omega)) (rangeTo 97 122 (by omega) (by omega)) (rangeTo 48 57 (by omega) (by omega)) (rangeTo 33 126 (by omega) (by omega))
  (fun i => !rg 33 126 i) punctF (fun w => not_c _ w) (fun w => not_c _ w) w
end Go.Proofs.YtdjcgjkbecncaaaGreatDoor
namespace Go.Proofs.YtdjcgjkbecncaaaGreatDoor
open Go.RowKit
theorem Fit.drew {w : World} (h : Fit w) : Fit w.drew := ⟨h.tab, h.pos⟩
theorem Fit.set4 {w : World} (h : Fit w) {b : Nat} (hb : 0 < b) (u0 u1 u2 u3 : Value) : Fit ((((w.setCell ⟨b, 0, none⟩ u0).setCell ⟨b, 1, none⟩ u1).setCell ⟨b, 2, none⟩ u2).setCell ⟨b, 3, none⟩ u3) := by
 have hB := Below.set4 (Below.refl b w) (Nat.le_refl b) u0 u1 u2 u3
 exact ⟨TabAt.below h.tab hB hb, Nat.lt_of_lt_of_le h.pos hB.size⟩
theorem cnt_not (f : Nat → Bool) : ∀ n, cnt f n + cnt (fun i => !f i) n = n
 | 0 => rfl
 | n + 1 => by
  have := cnt_not f n
  rw [cnt, cnt]
  cases f n <;> simp <;> omega
theorem sv_none : sv (fun _ => false) = .agg #[.int .u64 0, .int .u64 0, .int .u64 0, .int .u64 0] := by
 have z : ∀ k, wd (fun _ => false) k = 0 := fun k => by
  symm; apply wd_ext (by omega); intro i hi; simp
 unfold sv
 rw [z, z, z, z]; rfl
theorem bytesOf_list (f : Nat → Bool) : (bytesOf f).data.toList = (U f 256).map fun x => UInt8.ofNat x.1 := by
 simp [bytesOf, strOfNums_data, nums]
theorem bytesOf_size (f : Nat → Bool) : (bytesOf f).size = cnt f 256 := by
 rw [bytesOf, strOfNums_size, nums, List.length_map, U_length f 256 (Nat.le_refl _)]
theorem inS_bytesOf (f : Nat → Bool) (i : Nat) (hi : i < 256) : inS (bytesOf f) (bytesOf f).size i = f i := by
 have e : (bytesOf f).data.toList.length = (bytesOf f).size := by simp
 unfold inS
 rw [List.take_of_length_le (by omega), bytesOf_list, List.any_map, Bool.eq_iff_iff, List.any_eq_true]
 constructor
 ·rintro ⟨x, hx, he⟩
  rw [mem_U f 256 (Nat.le_refl _)] at hx
  simp at he
  rw [← he]; exact hx.1
 ·intro h
  refine ⟨⟨i, hi⟩, (mem_U f 256 (Nat.le_refl _) _).2 ⟨h, hi⟩, ?_⟩
  simp
end Go.Proofs.YtdjcgjkbecncaaaGreatDoor
namespace Go.Proofs.YtdjcgjkbecncaaaGreatDoor
open Go.RowKit
theorem tells_all (B b o0 n cap : Nat) (xs : List Nd) (hlen : xs.length = n) (hn : n ≤ 120) : ∀ t : T, t.Ok → Tells B b o0 n cap xs t
 | .leaf ⟨kd, w0, w1, w2, w3, xa, xb, m, M, xn⟩, h => tells_leaf B b o0 n cap xs hlen hn kd w0 w1 w2 w3 xa xb m M xn h
 | .two k s t, h => by
  rcases h.1 with rfl | rfl
  ·exact tells_two4 B b o0 n cap xs hlen hn s t (tells_all B b o0 n cap xs hlen hn s h.2.1) (tells_all B b o0 n cap xs hlen hn t h.2.2)
  ·exact tells_two5 B b o0 n cap xs hlen hn s t (tells_all B b o0 n cap xs hlen hn s h.2.1) (tells_all B b o0 n cap xs hlen hn t h.2.2)
 | .times m M t, h => tells_times B b o0 n cap xs hlen hn m M t (tells_all B b o0 n cap xs hlen hn t h.2)
 | .group k t, h => tells_group B b o0 n cap xs hlen hn k h.1 t (tells_all B b o0 n cap xs hlen hn t h.2)
theorem heap_alloc_lt (w : World) (ob : Obj) (c : Nat) (h : c < w.heap.size) : (w.alloc ob).heap[c]? = w.heap[c]? := by
 show (w.heap.push ob)[c]? = _
 rw [Array.getElem?_push_lt h]; simp [h]
theorem arenumbered_c (b o n cap : Nat) (xs : List Nd) (hlen : xs.length = n) (h1 : 1 ≤ n) (hn : n ≤ 120) (t : T) (ht : t.Ok) (ha : T.At (fun i => xs[i]?) t 0) (hs : t.size = n) (w : World) (hx : NodesAt w b o xs) :
  Calls Tryz.prog 36 #[.slice (some ⟨b, o, none⟩) n cap] w fun e w' => e = .returned (.bool (num t (0, fun _ => false)).isSome) ∧ Below w.heap.size w w' := by
 obtain ⟨p, rfl⟩ : ∃ p, n = p + 1 := ⟨n - 1, by omega⟩
 have IT := Lib.hid fun w1 hE => tells_all w.heap.size b o (p + 1) cap xs hlen hn t ht 0 p 0 (fun _ => false) w1 ha (by omega) (by omega) (by omega) hE
 clear ha ht
 obtain ⟨V, hV⟩ : ∃ V, V = ((((w.alloc (.cells #[.slice (some ⟨b, o, none⟩) (p + 1) cap] 31)).alloc (.cells #[.int .i64 0] 3)).alloc (.cells #[.bool false, .bool false, .bool false, .bool false, .bool false, .bool false, .bool false, .bool false, .bool false, .bool false] 108)).alloc (.cells #[.func (.func 77) #[] #[.pointer (some ⟨w.heap.size, 0, none⟩), .pointer (some ⟨w.heap.size + 1 + 1 + 1, 0, none⟩), .pointer (some ⟨w.heap.size + 1, 0, none⟩), .pointer (some ⟨w.heap.size + 1 + 1, 0, none⟩)]] 107)) := ⟨_, rfl⟩
 have e1 : ((w.alloc (.cells #[.slice (some ⟨b, o, none⟩) (p + 1) cap] 31))).heap.size = w.heap.size + 1 := World.size_alloc _ _
 have e2 : (((w.alloc (.cells #[.slice (some ⟨b, o, none⟩) (p + 1) cap] 31)).alloc (.cells #[.int .i64 0] 3))).heap.size = w.heap.size + 1 + 1 := by rw [World.size_alloc, e1]
 have e3 : ((((w.alloc (.cells #[.slice (some ⟨b, o, none⟩) (p + 1) cap] 31)).alloc (.cells #[.int .i64 0] 3)).alloc (.cells #[.bool false, .bool false, .bool false, .bool false, .bool false, .bool false, .bool false, .bool false, .bool false, .bool false] 108))).heap.size = w.heap.size + 1 + 1 + 1 := by rw [World.size_alloc, e2]
 have g0 : V.heap[w.heap.size]? = some ((.cells #[.slice (some ⟨b, o, none⟩) (p + 1) cap] 31 (0, 0))) := by
  rw [hV, heap_alloc_lt _ _ _ (by omega), heap_alloc_lt _ _ _ (by omega), heap_alloc_lt _ _ _ (by omega)]; exact heap_new _ _
 have g1 : V.heap[w.heap.size + 1]? = some ((.cells #[.int .i64 0] 3 (0, 0))) := by
  rw [hV, heap_alloc_lt _ _ _ (by omega), heap_alloc_lt _ _ _ (by omega), ← e1]; exact heap_new _ _
 have g2 : V.heap[w.heap.size + 2]? = some (.cells (ten fun _ => false) 108 (0, 0)) := by
  rw [hV, heap_alloc_lt _ _ _ (by omega), show w.heap.size + 2 = w.heap.size + 1 + 1 from rfl, ← e2]; exact heap_new _ _
 have g3 : V.heap[w.heap.size + 1 + 1 + 1]? = some ((.cells #[.func (.func 77) #[] #[.pointer (some ⟨w.heap.size, 0, none⟩), .pointer (some ⟨w.heap.size + 1 + 1 + 1, 0, none⟩), .pointer (some ⟨w.heap.size + 1, 0, none⟩), .pointer (some ⟨w.heap.size + 1 + 1, 0, none⟩)]] 107 (0, 0))) := by
  rw [hV, ← e3]; exact heap_new _ _
 clear e1 e2 e3
 have bV : Below w.heap.size w V := by
  rw [hV]
  exact ((((Below.refl _ w).alloc (Nat.le_refl _) _).alloc (by simp) _).alloc (by simp; omega) _).alloc (by simp; omega) _
 have lb := hx.lt
 have hE : Env w.heap.size b o (p + 1) cap xs 0 (fun _ => false) V := ⟨lb, g0, g1, g2, g3, hx.below bV lb⟩
 have cE := hE.cl; have fE := hE.cf
 have I1 := IT.out V hE
 clear IT g0 g1 g2 g3
 generalize num t (0, fun _ => false) = u at *
 rw [hV] at I1 cE fE bV
 clear hE hV
 cases u with
 | none =>
  simp only [Post, Option.isSome_none] at I1 ⊢
  have I1 := Lib.hid I1
  go_enter Tryz.func36, Tryz.ntmps36
  go_wp2_with (go_at_call 77; refine I1.out.mono ?_; rintro e w1 ⟨rfl, hB⟩)
  go_ret
  exact ⟨rfl, bV.trans hB.bel⟩
 | some v =>
  simp only [Post, Option.isSome_some] at I1 ⊢
  have I1 := Lib.hid I1
  go_enter Tryz.func36, Tryz.ntmps36
  go_wp2_with (go_at_call 77; refine I1.out.mono ?_; rintro e w1 ⟨⟨rfl, _⟩, hB⟩)
  go_ret
  exact ⟨rfl, bV.trans hB.bel⟩
def IsPat (xs : List Nd) (t : T) : Prop :=
 t.Ok ∧ T.At (fun i => xs[i]?) t 0 ∧ t.size = xs.length ∧ xs.length ≤ 120 ∧ (∀ (i : Nat) (x : Nd), xs[i]? = some x → isNd x = true) ∧ (∀ (i : Nat) (x : Nd), xs[i]? = some x → pOk xs x) ∧ (num t (0, fun _ => false)).isSome = true
end Go.Proofs.YtdjcgjkbecncaaaGreatDoor
namespace Go.Proofs.YtdjcgjkbecncaaaGreatDoor
open Go.Lib
/-! Decimal numerals. -/
/-! What stands ahead of the first of a byte. -/
/-! Bytes as two digits of base 16 each. -/
def dig (n : Nat) : UInt8 := if n < 10 then UInt8.ofNat (48 + n) else UInt8.ofNat (87 + n)
def hexl (l : List UInt8) : List UInt8 := l.flatMap fun b => [dig (b.toNat / 16), dig (b.toNat % 16)]
def Nd.set (x : Nd) : Nat → Bool := ofWords x.w0 x.w1 x.w2 x.w3
def leafText (x : Nd) : List UInt8 :=
 if x.kind = 0 then [101] else if x.kind = 1 then 91 :: (hexl (bytesOf x.set).data.toList ++ [93]) else if x.kind = 2 then [94] else if x.kind = 3 then [36] else 92 :: itoa x.n
def text : T → List UInt8
 | .leaf x => leafText x
 | .two k a b => (if k = 4 then 38 else 124) :: (text a ++ text b)
 | .times m M t => 42 :: (itoa m ++ 44 :: (itoa M ++ 59 :: text t))
 | .group n t => 40 :: (text t ++ [41])
theorem digit_one {n : Int} (h : isNum n = true) : itoa n = [UInt8.ofNat (48 + n.toNat)] := by
 have := num_of h
 unfold itoa
 rw [if_neg (by omega), decDigits_one (by omega)]
end Go.Proofs.YtdjcgjkbecncaaaGreatDoor
namespace Go.Proofs.YtdjcgjkbecncaaaGreatDoor
open Go.RowKit
theorem pIn_of_whole {xs : List Nd} {n : Nat} (hlen : xs.length = n) (hnd : ∀ (i : Nat) (x : Nd), xs[i]? = some x → isNd x = true) (hw : T.Whole (fun i => xs[i]?) n) (i : Nat) (x : Nd) (hx : xs[i]? = some x) : pIn n x := by
 have hi : i < n := by have := (List.getElem?_eq_some_iff.1 hx).1; omega
 obtain ⟨c, hc⟩ := hw.inner hi
 refine ⟨fun hk => ?_, fun hk => ?_⟩
 ·obtain ⟨q, h1, h2, h3, h4, h5, h6⟩ := (T.ends_two (l := fun i => xs[i]?) hx (hnd i x hx) hk).1 hc
  have := h3.le
  exact ⟨q - 1, i - 1, by omega, by omega, by omega, by omega⟩
 ·rcases hk with hk | hk
  ·obtain ⟨h1, h2, h3⟩ := (T.ends_times (l := fun i => xs[i]?) hx (hnd i x hx) hk).1 hc
   exact ⟨i - 1, by omega, by omega⟩
  ·obtain ⟨h1, h2, h3⟩ := (T.ends_group (l := fun i => xs[i]?) hx (hnd i x hx) hk).1 hc
   exact ⟨i - 1, by omega, by omega⟩
theorem IsPat.whole {xs : List Nd} {t : T} (h : IsPat xs t) (h1 : 1 ≤ xs.length) : T.Whole (fun i => xs[i]?) xs.length := ⟨t, h.1, h.2.1, by have := h.2.2.1; omega⟩
theorem IsPat.uniq {xs : List Nd} {t t' : T} (h : IsPat xs t) (ho : t'.Ok) (ha : T.At (fun i => xs[i]?) t' 0) (hs : t'.size = xs.length) : t = t' :=
 (T.uniq _ t t' 0 0 h.1 ho h.2.1 ha (by rw [h.2.2.1, hs])).1
theorem may_out (p : Option Addr) (n cap : Nat) (hn : n < 1 ∨ 120 < n) (hs : n < 9223372036854775807) (w : World) :
  Calls Tryz.prog 18 #[.slice p n cap] w fun e w' => e = .returned (.bool false) ∧ Below w.heap.size w w' := by
 rcases hn with hn | hn
 ·obtain rfl : n = 0 := by omega
  go_enter Tryz.func18, Tryz.ntmps18
  go_wp2
  go_ret
  exact ⟨rfl, Below.refl _ _⟩
 ·have h1 : ¬ ((n : Int) < 1) := by omega
  go_enter Tryz.func18, Tryz.ntmps18
  go_wp2
  go_ret
  exact ⟨rfl, Below.refl _ _⟩
theorem may_in (b o n cap : Nat) (xs : List Nd) (hlen : xs.length = n) (h1 : 1 ≤ n) (hn : n ≤ 120) (hfit : ∀ (i : Nat) (x : Nd), xs[i]? = some x → x.Fits) (r : Bool) (hr : r = true ↔ ∃ t, IsPat xs t) (w : World) (hx : NodesAt w b o xs) :
  Calls Tryz.prog 18 #[.slice (some ⟨b, o, none⟩) n cap] w fun e w' => e = .returned (.bool r) ∧ Below w.heap.size w w' := by
 have HR := Lib.hid hr; have HFit := Lib.hid hfit
 clear hr hfit
 have lb := hx.lt
 go_enter Tryz.func18, Tryz.ntmps18
 go_wp2
 go_loopw [15] (fun i wr => ∃ k : Nat, k ≤ n ∧ i = .int .i64 k ∧ (∀ (j : Nat) (x : Nd), j < k → xs[j]? = some x → isNd x = true) ∧ Below w.heap.size w wr) (fun i _ => n - (RowKit.intOf i).toNat)
 case atStart =>
  exact ⟨0, by omega, rfl, fun j x hj => by omega, Below.refl _ _⟩
 case round =>
  obtain ⟨k, hk, rfl, hg, hB⟩ := hrel
  have HG := Lib.hid hg
  clear hg
  by_cases hlt : k < n
  ·obtain ⟨x, hxk⟩ : ∃ x, xs[k]? = some x := ⟨xs[k]'(by omega), List.getElem?_eq_getElem (by omega)⟩
   have hfx := HFit.out k x hxk
   have gl : isNd x = true → ∀ (j : Nat) (y : Nd), j < k + 1 → xs[j]? = some y → isNd y = true := fun h j y hj hy => by
    by_cases e : j = k
    ·subst e; rw [hxk] at hy; cases hy; exact h
    ·exact HG.out j y (by omega) hy
   have gf : isNd x = false → r = false := fun h => by
    cases r
    ·rfl
    ·obtain ⟨t, ht⟩ := HR.out.1 rfl
     have := ht.2.2.2.2.1 k x hxk
     rw [h] at this; cases this
   have GL := Lib.hid gl; have GF := Lib.hid gf
   clear gl gf HG HFit
   have hw := hx.below hB hx.lt
   have d := hw.cell k x hxk
   have lB := hB.size
   obtain ⟨kd, w0, w1, w2, w3, xa, xb, m, M, xn⟩ := x
   have d0 : wr.cell? ⟨b, o + k * 10, none⟩ = some (.int .i64 kd) := d 0 _ rfl
   have d1 : wr.cell? ⟨b, o + k * 10 + 1, none⟩ = some (.int .u64 w0) := d 1 _ rfl
   have d2 : wr.cell? ⟨b, o + k * 10 + 2, none⟩ = some (.int .u64 w1) := d 2 _ rfl
   have d3 : wr.cell? ⟨b, o + k * 10 + 3, none⟩ = some (.int .u64 w2) := d 3 _ rfl
   have d4 : wr.cell? ⟨b, o + k * 10 + 4, none⟩ = some (.int .u64 w3) := d 4 _ rfl
   have d5 : wr.cell? ⟨b, o + k * 10 + 5, none⟩ = some (.int .i64 xa) := d 5 _ rfl
   have d6 : wr.cell? ⟨b, o + k * 10 + 6, none⟩ = some (.int .i64 xb) := d 6 _ rfl
   have d7 : wr.cell? ⟨b, o + k * 10 + 7, none⟩ = some (.int .i64 m) := d 7 _ rfl
   have d8 : wr.cell? ⟨b, o + k * 10 + 8, none⟩ = some (.int .i64 M) := d 8 _ rfl
   have d9 : wr.cell? ⟨b, o + k * 10 + 9, none⟩ = some (.int .i64 xn) := d 9 _ rfl
   clear d hw hxk
   have IN := Lib.hid fun w => isnode_k kd w0 w1 w2 w3 xa xb m M xn hfx w
   have bA : Below w.heap.size w (wr.alloc (.cells #[.int .i64 kd, .int .u64 w0, .int .u64 w1, .int .u64 w2, .int .u64 w3, .int .i64 xa, .int .i64 xb, .int .i64 m, .int .i64 M, .int .i64 xn] 37)) := hB.alloc (by omega) _
   cases hv : isNd ⟨kd, w0, w1, w2, w3, xa, xb, m, M, xn⟩
   ·rw [hv] at IN
    obtain rfl : r = false := GF.out hv
    clear GL GF hv
    go_wp2_with (go_at_call 33; refine (IN.out _).mono ?_; rintro e w1 ⟨rfl, hB1⟩)
    go_ret
    exact ⟨rfl, bA.trans (hB1.mono bA.size)⟩
   ·rw [hv] at IN
    have G2 := Lib.hid (GL.out hv)
    clear GL GF hv
    go_wp2_with (go_at_call 33; refine (IN.out _).mono ?_; rintro e w1 ⟨rfl, hB1⟩)
    go_roundw
    case rel => exact ⟨k + 1, by omega, by simp, G2.out, bA.trans (hB1.mono bA.size)⟩
    case measure => (simp [RowKit.intOf]) <;> omega
  ·obtain rfl : k = n := by omega
   have hnd : ∀ (i : Nat) (x : Nd), xs[i]? = some x → isNd x = true := fun i x hi => HG.out i x (by have := (List.getElem?_eq_some_iff.1 hi).1; omega) hi
   have hX := hx.below hB lb
   by_cases hW : T.Whole (fun i => xs[i]?) k
   ·have hin := pIn_of_whole hlen hnd hW
    obtain ⟨t, ht, hat, hsz⟩ := hW
    have hsz : t.size = k := by omega
    have IO := Lib.hid fun w hx => inorder_c b o k cap xs hlen h1 hn hnd true ⟨fun _ => ⟨t, ht, hat, by omega⟩, fun _ => rfl⟩ w hx
    by_cases hP : ∀ (i : Nat) (x : Nd), xs[i]? = some x → pOk xs x
    ·have IP := Lib.hid fun w hx => partsmay_c b o k cap xs hlen h1 hn hnd hin true ⟨fun _ => hP, fun _ => rfl⟩ w hx
     have IA := Lib.hid fun w hx => arenumbered_c b o k cap xs hlen h1 hn t ht hat hsz w hx
     obtain rfl : r = (num t (0, fun _ => false)).isSome := by
      rw [Bool.eq_iff_iff, HR.out]
      constructor
      ·rintro ⟨t', h'⟩
       have := h'.uniq ht hat (by omega)
       subst this
       exact h'.2.2.2.2.2.2
      ·exact fun h => ⟨t, ht, hat, by omega, by omega, hnd, hP, h⟩
     clear HR HG HFit hnd hin hP
     go_wp2_with fail
     refine (IO.out _ hX).mono ?_
     rintro e w1 ⟨rfl, hB1⟩
     have hX1 := hX.below hB1 hX.lt
     have b1 := hB.trans (hB1.mono hB.size)
     go_wp2_with fail
     refine (IP.out _ hX1).mono ?_
     rintro e w2 ⟨rfl, hB2⟩
     have hX2 := hX1.below hB2 hX1.lt
     have b2 := b1.trans (hB2.mono b1.size)
     go_wp2_with fail
     refine (IA.out _ hX2).mono ?_
     rintro e w3 ⟨rfl, hB3⟩
     have b3 := b2.trans (hB3.mono b2.size)
     go_wp2
     go_ret
     exact ⟨rfl, b3⟩
    ·have IP := Lib.hid fun w hx => partsmay_c b o k cap xs hlen h1 hn hnd hin false ⟨fun h => absurd h (by decide), fun h => absurd h hP⟩ w hx
     obtain rfl : r = false := by
      cases r
      ·rfl
      ·obtain ⟨t', h'⟩ := HR.out.1 rfl
       exact absurd h'.2.2.2.2.2.1 hP
     clear HR HG HFit hnd hin hP
     go_wp2_with fail
     refine (IO.out _ hX).mono ?_
     rintro e w1 ⟨rfl, hB1⟩
     have hX1 := hX.below hB1 hX.lt
     have b1 := hB.trans (hB1.mono hB.size)
     go_wp2_with fail
     refine (IP.out _ hX1).mono ?_
     rintro e w2 ⟨rfl, hB2⟩
     have hX2 := hX1.below hB2 hX1.lt
     have b2 := b1.trans (hB2.mono b1.size)
     go_wp2
     go_ret
     exact ⟨rfl, b2⟩
   ·have IO := Lib.hid fun w hx => inorder_c b o k cap xs hlen h1 hn hnd false ⟨fun h => absurd h (by decide), fun h => absurd h hW⟩ w hx
    obtain rfl : r = false := by
     cases r
     ·rfl
     ·obtain ⟨t', h'⟩ := HR.out.1 rfl
      exact absurd (hlen ▸ h'.whole (by omega)) hW
    clear HR HG HFit hnd
    go_wp2_with (go_at_call 34; refine (IO.out _ hX).mono ?_; rintro e w1 ⟨rfl, hB1⟩)
    go_ret
    exact ⟨rfl, hB.trans (hB1.mono hB.size)⟩
theorem may_c (p : Option Addr) (n cap : Nat) (xs : List Nd) (hlen : xs.length = n) (hs : n < 9223372036854775807) (hp : 1 ≤ n → ∃ b o, p = some ⟨b, o, none⟩) (hfit : ∀ (i : Nat) (x : Nd), xs[i]? = some x → x.Fits) (r : Bool) (hr : r = true ↔ ∃ t, IsPat xs t) (w : World)
  (hx : ∀ b o, p = some ⟨b, o, none⟩ → NodesAt w b o xs) :
  Calls Tryz.prog 18 #[.slice p n cap] w fun e w' => e = .returned (.bool r) ∧ Below w.heap.size w w' := by
 by_cases hn : 1 ≤ n ∧ n ≤ 120
 ·obtain ⟨b, o, rfl⟩ := hp hn.1
  exact may_in b o n cap xs hlen hn.1 hn.2 hfit r hr w (hx b o rfl)
 ·obtain rfl : r = false := by
   cases r
   ·rfl
   ·obtain ⟨t, ht⟩ := hr.1 rfl
    have h1 := ht.2.2.1
    have h2 := ht.2.2.2.1
    have h3 := t.size_pos
    omega
  exact may_out p n cap (by omega) hs w
end Go.Proofs.YtdjcgjkbecncaaaGreatDoor
namespace Go.Proofs.YtdjcgjkbecncaaaGreatDoor
open Go.RowKit
structure Nodes (w : World) (p : Option Addr) (n : Nat) (xs : List Nd) : Prop where
 len : xs.length = n
 small : n < 9223372036854775807
 ptr : 1 ≤ n → ∃ b o, p = some ⟨b, o, none⟩
 at' : 1 ≤ n → ∀ b o, p = some ⟨b, o, none⟩ → NodesAt w b o xs
 fits : ∀ (i : Nat) (x : Nd), xs[i]? = some x → x.Fits
theorem Nodes.below {w w' : World} {p : Option Addr} {n : Nat} {xs : List Nd} (h : Nodes w p n xs) (hB : Below w.heap.size w w') : Nodes w' p n xs :=
 ⟨h.len, h.small, h.ptr, fun h1 b o e => (h.at' h1 b o e).below hB (h.at' h1 b o e).lt, h.fits⟩
theorem may_n (p : Option Addr) (n cap : Nat) (xs : List Nd) (r : Bool) (hr : r = true ↔ ∃ t, IsPat xs t) (w : World) (h : Nodes w p n xs) :
  Calls Tryz.prog 18 #[.slice p n cap] w fun e w' => e = .returned (.bool r) ∧ Below w.heap.size w w' := by
 by_cases hn : 1 ≤ n
 ·obtain ⟨b, o, rfl⟩ := h.ptr hn
  exact may_c _ n cap xs h.len h.small h.ptr h.fits r hr w fun b' o' e => h.at' hn b' o' e
 ·obtain rfl : r = false := by
   cases r
   ·rfl
   ·obtain ⟨t, ht⟩ := hr.1 rfl
    have h1 := ht.2.2.1
    have h3 := t.size_pos
    have := h.len
    omega
  exact may_out p n cap (by omega) h.small w
def gcnt (xs : List Nd) : Nat → Nat
 | 0 => 0
 | k + 1 => gcnt xs k + (match xs[k]? with | some x => if x.kind = 7 then 1 else 0 | none => 0)
theorem gcnt_le (xs : List Nd) : ∀ k, gcnt xs k ≤ k
 | 0 => Nat.le_refl _
 | k + 1 => by
  have := gcnt_le xs k
  simp only [gcnt]
  split
  ·split <;> omega
  ·omega
theorem groups_in (b o n cap : Nat) (xs : List Nd) (hlen : xs.length = n) (h1 : 1 ≤ n) (hn : n ≤ 120) (hfit : ∀ (i : Nat) (x : Nd), xs[i]? = some x → x.Fits) (hp : ∃ t, IsPat xs t) (w : World) (hx : NodesAt w b o xs) :
  Calls Tryz.prog 22 #[.slice (some ⟨b, o, none⟩) n cap] w fun e w' => e = .returned (.int .i64 (gcnt xs n)) ∧ Below w.heap.size w w' := by
 have HM := Lib.hid fun w hx => may_in b o n cap xs hlen h1 hn hfit true ⟨fun _ => hp, fun _ => rfl⟩ w hx
 clear hp hfit
 have lb := hx.lt
 go_enter Tryz.func22, Tryz.ntmps22
 go_wp2_with (go_at_call 18; refine (HM.out _ hx).mono ?_; rintro e w1 ⟨rfl, hB1⟩)
 go_loopw [3, 11] (fun g i wr => ∃ k : Nat, k ≤ n ∧ i = .int .i64 k ∧ g = .int .i64 (gcnt xs k) ∧ Below w.heap.size w wr) (fun _ i _ => n - (RowKit.intOf i).toNat)
 case atStart => exact ⟨0, by omega, rfl, rfl, hB1⟩
 case round =>
  obtain ⟨k, hk, rfl, rfl, hB⟩ := hrel
  by_cases hlt : k < n
  ·obtain ⟨x, hxk⟩ : ∃ x, xs[k]? = some x := ⟨xs[k]'(by omega), List.getElem?_eq_getElem (by omega)⟩
   have hw := hx.below hB hx.lt
   have d := hw.cell k x hxk
   have lB := hB.size
   have hle := gcnt_le xs k
   have hs : gcnt xs (k + 1) = gcnt xs k + (if x.kind = 7 then 1 else 0) := by simp only [gcnt, hxk]
   obtain ⟨kd, w0, w1', w2, w3, xa, xb, m, M, xn⟩ := x
   have d0 : wr.cell? ⟨b, o + k * 10, none⟩ = some (.int .i64 kd) := d 0 _ rfl
   have d1 : wr.cell? ⟨b, o + k * 10 + 1, none⟩ = some (.int .u64 w0) := d 1 _ rfl
   have d2 : wr.cell? ⟨b, o + k * 10 + 2, none⟩ = some (.int .u64 w1') := d 2 _ rfl
   have d3 : wr.cell? ⟨b, o + k * 10 + 3, none⟩ = some (.int .u64 w2) := d 3 _ rfl
   have d4 : wr.cell? ⟨b, o + k * 10 + 4, none⟩ = some (.int .u64 w3) := d 4 _ rfl
   have d5 : wr.cell? ⟨b, o + k * 10 + 5, none⟩ = some (.int .i64 xa) := d 5 _ rfl
   have d6 : wr.cell? ⟨b, o + k * 10 + 6, none⟩ = some (.int .i64 xb) := d 6 _ rfl
   have d7 : wr.cell? ⟨b, o + k * 10 + 7, none⟩ = some (.int .i64 m) := d 7 _ rfl
   have d8 : wr.cell? ⟨b, o + k * 10 + 8, none⟩ = some (.int .i64 M) := d 8 _ rfl
   have d9 : wr.cell? ⟨b, o + k * 10 + 9, none⟩ = some (.int .i64 xn) := d 9 _ rfl
   clear d hw hxk
   simp only at hs
   obtain ⟨gk, hgk⟩ : ∃ g, g = gcnt xs k := ⟨_, rfl⟩
   rw [← hgk] at hs hle ⊢
   clear hgk
   by_cases h7 : kd = 7
   ·subst h7
    rw [if_pos rfl] at hs
    have HS := Lib.hid hs
    clear hs
    go_wp2
    go_roundw
    case rel => exact ⟨k + 1, by omega, by simp, by rw [HS.out]; simp, hB.alloc (by omega) _⟩
    case measure => (simp [RowKit.intOf]) <;> omega
   ·have z7 : (kd == 7) = false := by rw [beq_eq_false_iff_ne]; exact h7
    rw [if_neg h7] at hs
    have HS := Lib.hid hs
    clear hs
    go_wp2
    go_roundw
    case rel => exact ⟨k + 1, by omega, by simp, by rw [HS.out]; simp, hB.alloc (by omega) _⟩
    case measure => (simp [RowKit.intOf]) <;> omega
  ·obtain rfl : k = n := by omega
   go_wp2
   go_ret
   exact ⟨rfl, hB⟩
end Go.Proofs.YtdjcgjkbecncaaaGreatDoor
namespace Go.Proofs.YtdjcgjkbecncaaaGreatDoor
open Go.RowKit
theorem infoNd : (Tryz.prog.info? 37).map (fun i => (i.zero, i.size, i.bytes)) = some (some (.agg #[.int .i64 0, .int .u64 0, .int .u64 0, .int .u64 0, .int .u64 0, .int .i64 0, .int .i64 0, .int .i64 0, .int .i64 0, .int .i64 0]), 10, 80) := by kernel_rfl
def flat (xs : List Nd) : List Value := xs.flatMap fun x => x.cells.toList
theorem flat_at : ∀ (xs : List Nd) (j : Nat), j < xs.length * 10 → ∃ (i r : Nat) (x : Nd), xs[i]? = some x ∧ r < 10 ∧ j = i * 10 + r ∧ (flat xs)[j]? = x.cells[r]?
 | [], j, h => by simp at h
 | x :: xs, j, h => by
  have hl : x.cells.toList.length = 10 := rfl
  by_cases hj : j < 10
  ·refine ⟨0, j, x, rfl, hj, by omega, ?_⟩
   simp only [flat, List.flatMap_cons]
   rw [List.getElem?_append_left (by omega)]
   simp
  ·obtain ⟨i, r, y, h1, h2, h3, h4⟩ := flat_at xs (j - 10) (by simp only [List.length_cons] at h; omega)
   refine ⟨i + 1, r, y, h1, h2, by omega, ?_⟩
   simp only [flat, List.flatMap_cons] at h4 ⊢
   rw [List.getElem?_append_right (by omega), hl]
   exact h4
theorem flat_get (xs : List Nd) (i r : Nat) (x : Nd) (hx : xs[i]? = some x) (hr : r < 10) : (flat xs)[i * 10 + r]? = x.cells[r]? := by
 have hi : i < xs.length := (List.getElem?_eq_some_iff.1 hx).1
 obtain ⟨i', r', y, h1, h2, h3, h4⟩ := flat_at xs (i * 10 + r) (by omega)
 obtain rfl : i' = i := by omega
 obtain rfl : r' = r := by omega
 rw [hx] at h1
 cases h1
 exact h4
end Go.Proofs.YtdjcgjkbecncaaaGreatDoor
