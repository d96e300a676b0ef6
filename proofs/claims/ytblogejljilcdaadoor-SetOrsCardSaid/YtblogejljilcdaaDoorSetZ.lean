/- What the walks of SetOrs and SetTells share. -/
import Derived.Test.YtblogejljilcdaaDoorSetS
import Derived.Test.YtblogejljilcdaaDoorSetQ
import Derived.Test.YtblogejljilcdaaDoorSetO
import Derived.Deep.RegionHeld3
namespace Go.Proofs.YtblogejljilcdaaDoor
open Go.RowKit
set_option linter.unusedVariables false
set_option linter.unusedSimpArgs false

theorem Fit.drew {w : World} (h : Fit w) : Fit w.drew := ⟨h.tab, h.pos⟩
theorem heap_new2 (w : World) (o o' : Obj) : ((w.alloc o).alloc o').heap[w.heap.size]? = some o := by
  show ((w.heap.push o).push o')[w.heap.size]? = some o
  rw [Array.getElem?_push_lt (by simp)]; simp
theorem Fit.set4 {w : World} (h : Fit w) {b : Nat} (hb : 0 < b) (u0 u1 u2 u3 : Value) : Fit ((((w.setCell ⟨b, 0, none⟩ u0).setCell ⟨b, 1, none⟩ u1).setCell ⟨b, 2, none⟩ u2).setCell ⟨b, 3, none⟩ u3) := by
  have hB := Below.set4 (Below.refl b w) (Nat.le_refl b) u0 u1 u2 u3
  exact ⟨TabAt.below h.tab hB hb, Nat.lt_of_lt_of_le h.pos hB.size⟩

theorem cnt_not (f : Nat → Bool) : ∀ n, cnt f n + cnt (fun i => !f i) n = n
  | 0 => rfl
  | n + 1 => by
    have := cnt_not f n
    rw [cnt, cnt]
    cases f n <;> simp <;> omega

theorem sv_none : sv (fun _ => false) = .agg #[.int .u64 0, .int .u64 0, .int .u64 0, .int .u64 0] := by
  have z : ∀ k, wd (fun _ => false) k = 0 := fun k => by
    symm; apply wd_ext (by omega); intro i hi; simp
  unfold sv
  rw [z, z, z, z]; rfl

theorem bytesOf_list (f : Nat → Bool) : (bytesOf f).data.toList = (U f 256).map fun x => UInt8.ofNat x.1 := by
  simp [bytesOf, strOfNums_data, nums]
theorem bytesOf_size (f : Nat → Bool) : (bytesOf f).size = cnt f 256 := by
  rw [bytesOf, strOfNums_size, nums, List.length_map, U_length f 256 (Nat.le_refl _)]
theorem inS_bytesOf (f : Nat → Bool) (i : Nat) (hi : i < 256) : inS (bytesOf f) (bytesOf f).size i = f i := by
  have e : (bytesOf f).data.toList.length = (bytesOf f).size := by simp
  unfold inS
  rw [List.take_of_length_le (by omega), bytesOf_list, List.any_map, Bool.eq_iff_iff, List.any_eq_true]
  constructor
  · rintro ⟨x, hx, he⟩
    rw [mem_U f 256 (Nat.le_refl _)] at hx
    simp at he
    rw [← he]; exact hx.1
  · intro h
    refine ⟨⟨i, hi⟩, (mem_U f 256 (Nat.le_refl _) _).2 ⟨h, hi⟩, ?_⟩
    simp

end Go.Proofs.YtblogejljilcdaaDoor
