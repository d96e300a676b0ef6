/- Or of some sets, and Class. -/
import Derived.Test.YtblogejljilcdaaDoorSetC
import Derived.Deep.RegionHeld3
namespace Go.Proofs.YtblogejljilcdaaDoor
open Go.RowKit
set_option linter.unusedVariables false
set_option linter.unusedSimpArgs false

/-- **Or of 2 sets.** -/
theorem or2_c (f g : Nat → Bool) (b cap : Nat) (w : World) (t : TypeId) (hb : w.heap[b]? = some (.cells #[.int .u64 (wd f 0), .int .u64 (wd f 1), .int .u64 (wd f 2), .int .u64 (wd f 3), .int .u64 (wd g 0), .int .u64 (wd g 1), .int .u64 (wd g 2), .int .u64 (wd g 3)] t (0, 0))) :
    Calls Tryd.prog 11 #[.slice (some ⟨b, 0, none⟩) 2 cap] w fun e w' => e = .returned (sv (fun i => f i || g i)) ∧ Below w.heap.size w w' := by
  have hc : ∀ j, w.cell? ⟨b, j, none⟩ = (#[.int .u64 (wd f 0), .int .u64 (wd f 1), .int .u64 (wd f 2), .int .u64 (wd f 3), .int .u64 (wd g 0), .int .u64 (wd g 1), .int .u64 (wd g 2), .int .u64 (wd g 3)] : Array Value)[j]? := fun j => by simp [World.cell?, hb]
  refine (or_go (fun i => if i = 0 then f else g) 2 cap b (by omega) w (heap_lt hb) (fun i hi => ?_)).mono ?_
  · rcases (by omega : i = 0 ∨ i = 1) with rfl | rfl <;> exact ⟨hc _, hc _, hc _, hc _⟩
  · rintro e w' ⟨rfl, hB⟩
    exact ⟨congrArg Ending.returned (sv_congr fun i _ => by simp [anyF]), hB⟩

/-- **Or of 3 sets.** -/
theorem or3_c (f g h : Nat → Bool) (b cap : Nat) (w : World) (t : TypeId) (hb : w.heap[b]? = some (.cells #[.int .u64 (wd f 0), .int .u64 (wd f 1), .int .u64 (wd f 2), .int .u64 (wd f 3), .int .u64 (wd g 0), .int .u64 (wd g 1), .int .u64 (wd g 2), .int .u64 (wd g 3), .int .u64 (wd h 0), .int .u64 (wd h 1), .int .u64 (wd h 2), .int .u64 (wd h 3)] t (0, 0))) :
    Calls Tryd.prog 11 #[.slice (some ⟨b, 0, none⟩) 3 cap] w fun e w' => e = .returned (sv (fun i => f i || g i || h i)) ∧ Below w.heap.size w w' := by
  have hc : ∀ j, w.cell? ⟨b, j, none⟩ = (#[.int .u64 (wd f 0), .int .u64 (wd f 1), .int .u64 (wd f 2), .int .u64 (wd f 3), .int .u64 (wd g 0), .int .u64 (wd g 1), .int .u64 (wd g 2), .int .u64 (wd g 3), .int .u64 (wd h 0), .int .u64 (wd h 1), .int .u64 (wd h 2), .int .u64 (wd h 3)] : Array Value)[j]? := fun j => by simp [World.cell?, hb]
  refine (or_go (fun i => if i = 0 then f else if i = 1 then g else h) 3 cap b (by omega) w (heap_lt hb) (fun i hi => ?_)).mono ?_
  · rcases (by omega : i = 0 ∨ i = 1 ∨ i = 2) with rfl | rfl | rfl <;> exact ⟨hc _, hc _, hc _, hc _⟩
  · rintro e w' ⟨rfl, hB⟩
    exact ⟨congrArg Ending.returned (sv_congr fun i _ => by simp [anyF]), hB⟩

/-- **Or of 4 sets.** -/
theorem or4_c (f g h l : Nat → Bool) (b cap : Nat) (w : World) (t : TypeId) (hb : w.heap[b]? = some (.cells #[.int .u64 (wd f 0), .int .u64 (wd f 1), .int .u64 (wd f 2), .int .u64 (wd f 3), .int .u64 (wd g 0), .int .u64 (wd g 1), .int .u64 (wd g 2), .int .u64 (wd g 3), .int .u64 (wd h 0), .int .u64 (wd h 1), .int .u64 (wd h 2), .int .u64 (wd h 3), .int .u64 (wd l 0), .int .u64 (wd l 1), .int .u64 (wd l 2), .int .u64 (wd l 3)] t (0, 0))) :
    Calls Tryd.prog 11 #[.slice (some ⟨b, 0, none⟩) 4 cap] w fun e w' => e = .returned (sv (fun i => f i || g i || h i || l i)) ∧ Below w.heap.size w w' := by
  have hc : ∀ j, w.cell? ⟨b, j, none⟩ = (#[.int .u64 (wd f 0), .int .u64 (wd f 1), .int .u64 (wd f 2), .int .u64 (wd f 3), .int .u64 (wd g 0), .int .u64 (wd g 1), .int .u64 (wd g 2), .int .u64 (wd g 3), .int .u64 (wd h 0), .int .u64 (wd h 1), .int .u64 (wd h 2), .int .u64 (wd h 3), .int .u64 (wd l 0), .int .u64 (wd l 1), .int .u64 (wd l 2), .int .u64 (wd l 3)] : Array Value)[j]? := fun j => by simp [World.cell?, hb]
  refine (or_go (fun i => if i = 0 then f else if i = 1 then g else if i = 2 then h else l) 4 cap b (by omega) w (heap_lt hb) (fun i hi => ?_)).mono ?_
  · rcases (by omega : i = 0 ∨ i = 1 ∨ i = 2 ∨ i = 3) with rfl | rfl | rfl | rfl <;> exact ⟨hc _, hc _, hc _, hc _⟩
  · rintro e w' ⟨rfl, hB⟩
    exact ⟨congrArg Ending.returned (sv_congr fun i _ => by simp [anyF]), hB⟩

/-- The bytes from a to b. -/
def rg (a b : Nat) (i : Nat) : Bool := decide (a ≤ i) && decide (i ≤ b)

/-- What Range and Of hand back, of a pair of bytes and of a text. -/
def RangeTo (a b : Int) (f : Nat → Bool) : Prop := ∀ w, Calls Tryd.prog 21 #[.int .u8 a, .int .u8 b] w fun e w' => e = .returned (sv f) ∧ Below w.heap.size w w'
def OfTo (s : ByteArray) (f : Nat → Bool) : Prop := ∀ w, Calls Tryd.prog 19 #[.string s] w fun e w' => e = .returned (sv f) ∧ Below w.heap.size w w'
theorem rangeTo (a b : Nat) (ha : a < 256) (hb : b < 256) : RangeTo a b (rg a b) := fun w => range_c a b ha hb w
theorem ofTo (s : ByteArray) (hs : s.size < 9223372036854775807) : OfTo s (inS s s.size) := fun w => of_c s hs w
def NotTo (f g : Nat → Bool) : Prop := ∀ w, Calls Tryd.prog 12 #[sv f] w fun e w' => e = .returned (sv g) ∧ Below w.heap.size w w'

end Go.Proofs.YtblogejljilcdaaDoor
