/- read's closures: what they share; next; put. -/
import Derived.Test.YtjnedhjpgefbpaaGreatDoorZRxTl
import Derived.Test.YtjnedhjpgefbpaaGreatDoorZRxTe
import Derived.Test.YtjnedhjpgefbpaaGreatDoorZRxTj
import Derived.Deep.RegionHeld3
namespace Go.Proofs.YtjnedhjpgefbpaaGreatDoor
open Go.RowKit Go.Lib
set_option linter.unusedVariables false
set_option linter.unusedSimpArgs false

theorem own_only {w w' : World} {K b n : Nat} {v : Value} {xs : List Value} (h : w.ownsRow (K + 9) 46 10 v n xs) (hO : Only K b w w') (hb : b < K + 9) : w'.ownsRow (K + 9) 46 10 v n xs := by
  refine ⟨h.1, ?_⟩
  rcases h.2 with h | ⟨g, cap, cur, e1, e2, e3, r⟩
  · exact .inl h
  · exact .inr ⟨g, cap, cur, e1, e2, (hO.heap g (by omega) (Array.getElem?_eq_some_iff.1 e3).1).trans e3, r⟩
section
variable {w0 : World} {K : Nat} {σ : Rd} {w w' : World}
theorem only_set (K b : Nat) (w : World) (hb : K ≤ b) (v : Value) : Only K b w (w.setCell ⟨b, 0, none⟩ v) := Only.set (b := b) ⟨Below.refl _ _, fun _ _ _ => rfl⟩ hb v
theorem heap1 {w : World} {b : Nat} {v : Value} {t : TypeId} (h : w.heap[b]? = some (.cells #[v] t (0, 0))) : w.cell? ⟨b, 0, none⟩ = some v := by rw [cell_of _ _ _ _ h]; rfl
end

end Go.Proofs.YtjnedhjpgefbpaaGreatDoor

namespace Go.Proofs.YtjnedhjpgefbpaaGreatDoor
open Go.RowKit Go.Lib
set_option linter.unusedVariables false
set_option linter.unusedSimpArgs false

/-- The reader's bounds. -/
structure Small (n : Nat) (σ : Rd) (τ : Rd) : Prop where
  f : 120 ≤ σ.begun + n
  l : σ.left.length < 4294967281
  b : τ.begun ≤ 1000
  g : τ.groups ≤ 1000
  x : τ.xs.length ≤ 1000
end Go.Proofs.YtjnedhjpgefbpaaGreatDoor
