/- Or of some sets, and Class. -/
import Derived.Test.YthcgboebmhabeaaGreatDoorZSetE
import Derived.Deep.RegionHeld3
import Derived.Test.YthcgboebmhabeaaGreatDoorZSetQ
namespace Go.Proofs.YthcgboebmhabeaaGreatDoor
open Go.RowKit
set_option linter.unusedVariables false
set_option linter.unusedSimpArgs false

/-- The bytes from a to b. -/
def rg (a b : Nat) (i : Nat) : Bool := decide (a ≤ i) && decide (i ≤ b)

def OfTo (s : ByteArray) (f : Nat → Bool) : Prop := ∀ w, Calls Tryz.prog 18 #[.string s] w fun e w' => e = .returned (sv f) ∧ Below w.heap.size w w'
theorem ofTo (s : ByteArray) (hs : s.size < 9223372036854775807) : OfTo s (inS s s.size) := fun w => of_c s hs w
end Go.Proofs.YthcgboebmhabeaaGreatDoor

namespace Go.Proofs.YthcgboebmhabeaaGreatDoor
open Go.RowKit
set_option linter.unusedVariables false
set_option linter.unusedSimpArgs false

end Go.Proofs.YthcgboebmhabeaaGreatDoor

namespace Go.Proofs.YthcgboebmhabeaaGreatDoor
open Go.RowKit
set_option linter.unusedVariables false
set_option linter.unusedSimpArgs false

/-- What the contracts ask of the world. -/
structure Fit (w : World) : Prop where
  tab : TabAt 0 Lib.deBruijn64tab w
  pos : 0 < w.heap.size
theorem Fit.below {w w' : World} (h : Fit w) (hB : Below w.heap.size w w') : Fit w' := ⟨TabAt.below h.tab hB h.pos, Nat.lt_of_lt_of_le h.pos hB.size⟩
theorem Fit.alloc {w : World} (h : Fit w) (o : Obj) : Fit (w.alloc o) := h.below ((Below.refl _ w).alloc (Nat.le_refl _) o)

/-- The classes' sets. -/
def punctF (i : Nat) : Bool := !((!rg 33 126 i) || rg 65 90 i || rg 97 122 i || rg 48 57 i)

theorem bytes_a1 : bytesOf (foldF (inS ⟨#[97, 49]⟩ 2)) = ⟨#[49, 65, 97]⟩ := by decide +kernel
theorem cnt_a1 : cnt (foldF (inS ⟨#[97, 49]⟩ 2)) 256 = 3 := by decide +kernel

theorem fold_fit (f : Nat → Bool) (w : World) (hw : Fit w) : Calls Tryz.prog 33 #[sv f] w fun e w' => e = .returned (sv (foldF f)) ∧ Below w.heap.size w w' := fold_c f w hw.tab hw.pos
theorem bytes_fit (f : Nat → Bool) (w : World) (hw : Fit w) : Calls Tryz.prog 48 #[sv f] w fun e w' => e = .returned (.string (bytesOf f)) ∧ Below w.heap.size w w' := bytes_c f w hw.tab hw.pos

end Go.Proofs.YthcgboebmhabeaaGreatDoor

namespace Go.Proofs.YthcgboebmhabeaaGreatDoor
open Go.RowKit
set_option linter.unusedVariables false
set_option linter.unusedSimpArgs false

theorem Fit.drew {w : World} (h : Fit w) : Fit w.drew := ⟨h.tab, h.pos⟩
theorem heap_new2 (w : World) (o o' : Obj) : ((w.alloc o).alloc o').heap[w.heap.size]? = some o := by
  show ((w.heap.push o).push o')[w.heap.size]? = some o
  rw [Array.getElem?_push_lt (by simp)]; simp
theorem Fit.set4 {w : World} (h : Fit w) {b : Nat} (hb : 0 < b) (u0 u1 u2 u3 : Value) : Fit ((((w.setCell ⟨b, 0, none⟩ u0).setCell ⟨b, 1, none⟩ u1).setCell ⟨b, 2, none⟩ u2).setCell ⟨b, 3, none⟩ u3) := by
  have hB := Below.set4 (Below.refl b w) (Nat.le_refl b) u0 u1 u2 u3
  exact ⟨TabAt.below h.tab hB hb, Nat.lt_of_lt_of_le h.pos hB.size⟩

theorem cnt_not (f : Nat → Bool) : ∀ n, cnt f n + cnt (fun i => !f i) n = n
  | 0 => rfl
  | n + 1 => by
    have := cnt_not f n
    rw [cnt, cnt]
    cases f n <;> simp <;> omega

theorem sv_none : sv (fun _ => false) = .agg #[.int .u64 0, .int .u64 0, .int .u64 0, .int .u64 0] := by
  have z : ∀ k, wd (fun _ => false) k = 0 := fun k => by
    symm; apply wd_ext (by omega); intro i hi; simp
  unfold sv
  rw [z, z, z, z]; rfl

theorem bytesOf_list (f : Nat → Bool) : (bytesOf f).data.toList = (U f 256).map fun x => UInt8.ofNat x.1 := by
  simp [bytesOf, strOfNums_data, nums]
theorem bytesOf_size (f : Nat → Bool) : (bytesOf f).size = cnt f 256 := by
  rw [bytesOf, strOfNums_size, nums, List.length_map, U_length f 256 (Nat.le_refl _)]
theorem inS_bytesOf (f : Nat → Bool) (i : Nat) (hi : i < 256) : inS (bytesOf f) (bytesOf f).size i = f i := by
  have e : (bytesOf f).data.toList.length = (bytesOf f).size := by simp
  unfold inS
  rw [List.take_of_length_le (by omega), bytesOf_list, List.any_map, Bool.eq_iff_iff, List.any_eq_true]
  constructor
  · rintro ⟨x, hx, he⟩
    rw [mem_U f 256 (Nat.le_refl _)] at hx
    simp at he
    rw [← he]; exact hx.1
  · intro h
    refine ⟨⟨i, hi⟩, (mem_U f 256 (Nat.le_refl _) _).2 ⟨h, hi⟩, ?_⟩
    simp

end Go.Proofs.YthcgboebmhabeaaGreatDoor
