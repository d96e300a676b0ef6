/- What lifts the walks of stage 8: slices of bools among the arguments. -/
import Derived.Test.YtkdnnhjoeaoihaaTbU
import Derived.Test.YtkdnnhjoeaoihaaTbT
import Derived.WalkKit
import Derived.ProofKit
import Derived.OpenShut
import Derived.Laws.Cover2
import Derived.Deep.Slices
import Derived.Carry
namespace Go.Proofs.Ytkdnnhjoeaoihaa
open Go.ChangeShapes Go.WideShapes Go.ChangeAt Go.RowKit
set_option linter.unusedVariables false
set_option linter.unusedSimpArgs false
section
variable {H : Type} {enc : TypeId × Value → H} {W : World} {base : Nat} {sp : Nat → Bool} {held : Bool}

theorem open_bools {a0 : Option Addr} {len cap : Nat} {d : DataW H} {ps : List MemPlace} (hd : DataW.Trod enc Try.prog W base sp held 32 (.slice a0 len cap) d ps) : ∃ bs, Bools W a0 len bs := by
  obtain ⟨fuel, hf⟩ := hd
  rcases Deep.open_slice1 Try.underlying32 cellsBool0 hf with ⟨hcs, _⟩ | ⟨a, len', cap', m, n, V, D, Pl, hcs, _, hl, hm, hmm, hx, hel⟩
  · simp [Value.cells] at hcs
    obtain ⟨rfl, rfl, rfl⟩ := hcs
    exact ⟨[], ⟨rfl, by omega, fun h => absurd h (by omega), fun h => absurd h (by omega), fun _ _ e => by (cases e)⟩⟩
  · simp [Value.cells] at hcs
    obtain ⟨rfl, rfl, rfl⟩ := hcs
    have hlm : len ≤ m := by rw [hmm]; split <;> omega
    have each : ∀ i, i < len → ∃ x : Bool, W.cell? (a.add i) = some (.bool x) := fun i hi => by
      obtain ⟨h1, h2⟩ := hel i (by omega)
      obtain ⟨x, e, _⟩ := DataW.trod_bool Try.underlying4 h2
      simp at e
      exact ⟨x, by rw [h1, e]⟩
    obtain ⟨X, hX⟩ := Deep.choose_lt each
    refine ⟨(List.range len).map X, ⟨by simp, by omega, ?_, ?_, ?_⟩⟩
    · intro h1
      obtain ⟨b, off, spot⟩ := a
      have h0 := hX 0 (by omega)
      have hspot : spot = none := by simpa [Addr.add] using World.cell?_spot h0
      exact ⟨b, off, by rw [hspot]⟩
    · intro h1 b o e
      obtain rfl : a = ⟨b, o, none⟩ := Option.some.inj e
      have h0 := hX 0 (by omega)
      rw [Addr.add_lit] at h0
      exact lt_cell h0
    · intro b o e i x hxi
      obtain rfl : a = ⟨b, o, none⟩ := Option.some.inj e
      have hi : i < len := by
        have := (List.getElem?_eq_some_iff.1 hxi).1
        simpa using this
      have hx' : X i = x := by simpa [hi] using hxi
      have := hX i hi
      rw [Addr.add_lit, hx'] at this
      exact this
end

end Go.Proofs.Ytkdnnhjoeaoihaa
