/- '==' on arrays: one and the same array. -/
import Derived.Test.YtblogejljilcdaaDoorSetA
import Derived.ChangeKeysEq
namespace Go.Proofs.YtblogejljilcdaaDoor
open Go.RowKit
set_option linter.unusedVariables false
set_option linter.unusedSimpArgs false

theorem eqItems_same {P : Program} (w : World) (d : Nat) {e : TypeId} (he : P.plainKey e = true) (xs : Array Value) (good : ∀ (i : Nat) (v : Value), xs[i]? = some v → (Op.equalIn d e v v).run P w = .ok true w) :
    ∀ is : List Nat, (∀ i ∈ is, i < xs.size) → (Op.eqItems d e 1 xs xs is).run P w = .ok true w
  | [], _ => by simp [Op.eqItems]
  | i :: is, h => by
    obtain ⟨v, hv⟩ : ∃ v, xs[i]? = some v := ⟨xs[i]'(h i (by simp)), by simp [h i (by simp)]⟩
    have hp := run_part_plain (P := P) w he hv
    have ih := eqItems_same w d he xs good is (fun j hj => h j (by simp [hj]))
    simp only [Op.eqItems, Nat.mul_one, Sem.run_bind, hp, Result.andThen_ok, good i v hv]
    simpa using ih

theorem eq_array {P : Program} (w : World) {t e : TypeId} {n : Nat} (xs : Array Value) (hu : P.underlying t = some (.array n e)) (he : P.plainKey e = true) (hc : P.cellsOf e = 1) (hi : ∃ i, P.info? e = some i) (hs : xs.size = n)
    (good : ∀ (i : Nat) (v : Value), xs[i]? = some v → (Op.equalIn 9999 e v v).run P w = .ok true w) : (Op.equalIn 10000 t (.agg xs) (.agg xs)).run P w = .ok true w := by
  obtain ⟨i, hi⟩ := hi
  rw [show (10000 : Nat) = 9999 + 1 from rfl, run_equalIn_array w 9999 xs xs hu hi, hc]
  exact eqItems_same w 9999 he xs good _ (fun j hj => by rw [hs]; simpa using hj)

theorem info22 : ∃ i, Tryd.prog.info? 22 = some i := info_of_underlying Tryd.underlying22
theorem plain22 : Tryd.prog.plainKey 22 = true := by kernel_rfl
theorem one22 : Tryd.prog.cellsOf 22 = 1 := by kernel_rfl

theorem eq_four {t : TypeId} (ht : Tryd.prog.underlying t = some (.array 4 22)) (a b c d : Int) (w : World) :
    (Op.equalIn 10000 t (.agg #[.int .u64 a, .int .u64 b, .int .u64 c, .int .u64 d]) (.agg #[.int .u64 a, .int .u64 b, .int .u64 c, .int .u64 d])).run Tryd.prog w = .ok true w := by
  refine eq_array w _ ht plain22 one22 info22 rfl (fun i v hv => ?_)
  have hi : i < 4 := by
    rcases Nat.lt_or_ge i 4 with h | h
    · exact h
    · rw [Array.getElem?_eq_none (by simpa using h)] at hv; cases hv
  rcases (by omega : i = 0 ∨ i = 1 ∨ i = 2 ∨ i = 3) with rfl | rfl | rfl | rfl <;>
    (simp at hv; subst hv; rw [show (9999 : Nat) = 9998 + 1 from rfl, run_equalIn_int w 9998 _ .u64 .u64 _ _ Tryd.underlying22]; simp)

theorem eq_set (f : Nat → Bool) (w : World) :
    (Op.equalIn 10000 24 (.agg #[.int .u64 (wd f 0), .int .u64 (wd f 1), .int .u64 (wd f 2), .int .u64 (wd f 3)]) (.agg #[.int .u64 (wd f 0), .int .u64 (wd f 1), .int .u64 (wd f 2), .int .u64 (wd f 3)])).run Tryd.prog w = .ok true w :=
  eq_four Tryd.underlying24 _ _ _ _ w

end Go.Proofs.YtblogejljilcdaaDoor
