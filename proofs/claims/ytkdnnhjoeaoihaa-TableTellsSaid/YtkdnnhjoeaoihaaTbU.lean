/- What lifts the walks of stage 8: slices of files among the arguments. -/
import Derived.Test.YtkdnnhjoeaoihaaTbA
import Derived.WalkKit
import Derived.ProofKit
import Derived.OpenShut
import Derived.Laws.Cover2
import Derived.Deep.Slices
import Derived.Carry
namespace Go.Proofs.Ytkdnnhjoeaoihaa
open Go.ChangeShapes Go.WideShapes Go.ChangeAt Go.RowKit
set_option linter.unusedVariables false
set_option linter.unusedSimpArgs false

theorem lt_cell {w : World} {b j : Nat} {v : Value} (h : w.cell? ⟨b, j, none⟩ = some v) : b < w.heap.size := by
  cases hb : w.heap[b]? with
  | none => simp [World.cell?, hb] at h
  | some o => exact (Array.getElem?_eq_some_iff.1 hb).1
theorem own : ownKnob Try.prog.godebug = none := by kernel_rfl
theorem laidOut : laidOutB Try.prog = true := by kernel_rfl
theorem cellsStr0 : Try.prog.cellsOf 9 = 1 := by kernel_rfl
theorem cellsBool0 : Try.prog.cellsOf 4 = 1 := by kernel_rfl
theorem cellsTF : Try.prog.cellsOf 35 = 2 := by kernel_rfl
section
variable {H : Type} {enc : TypeId × Value → H} {W : World} {base : Nat} {sp : Nat → Bool} {held : Bool}

set_option maxRecDepth 100000 in
set_option maxHeartbeats 1000000 in
theorem open_files1 {fuel : Nat} {cs : List Value} {y : DataW H × List MemPlace} (h : DataW.trod enc Try.prog W base sp held fuel 35 cs = some y) : ∃ x : Fl, cs = [.string x.1, .string x.2] := by
  obtain ⟨xs, k, _, _, hl, hxl, hf⟩ := DataW.trod_struct Try.underlying35 h
  rw [cellsTF] at hl
  obtain ⟨a, b, rfl⟩ : ∃ a b, cs = [a, b] := by
    match cs, hl with
    | [a, b], _ => exact ⟨a, b, rfl⟩
  have g0 := hf 0 _ rfl
  have g1 := hf 1 _ rfl
  have hsz : xs.length = 2 := hxl
  match xs, hsz with
  | [y0, y1], _ =>
    simp [cellsStr0, cellsBool0] at g0 g1
    obtain ⟨s, e0, _, _⟩ := DataW.trod_string Try.underlying9 g0
    obtain ⟨t, e1, _, _⟩ := DataW.trod_string Try.underlying9 g1
    simp at e0 e1
    subst e0 e1
    exact ⟨(s, t), rfl⟩
set_option maxRecDepth 100000 in
set_option maxHeartbeats 1000000 in
theorem open_files {a0 : Option Addr} {len cap : Nat} {d : DataW H} {ps : List MemPlace} (hd : DataW.Trod enc Try.prog W base sp held 22 (.slice a0 len cap) d ps) : ∃ xs, Files W a0 len cap xs := by
  obtain ⟨fuel, hf⟩ := hd
  rcases Deep.open_slice Try.underlying22 hf with ⟨hcs, _⟩ | ⟨a, len', cap', m, n, D, Pl, hcs, _, hl, hm, hmm, hx, hel⟩
  · simp [Value.cells] at hcs
    obtain ⟨rfl, rfl, rfl⟩ := hcs
    exact ⟨[], Files.none_ W⟩
  · simp [Value.cells] at hcs
    obtain ⟨rfl, rfl, rfl⟩ := hcs
    have hlm : len ≤ m := by rw [hmm]; split <;> omega
    have each : ∀ i, i < len → ∃ x : Fl, W.cell? (a.add (i * 2)) = some (.string x.1) ∧ W.cell? (a.add (i * 2 + 1)) = some (.string x.2) := fun i hi => by
      obtain ⟨cs', h1, h2⟩ := hel i (by omega)
      rw [cellsTF] at h1
      obtain ⟨x, rfl⟩ := open_files1 h2
      obtain ⟨_, _, hcell⟩ := World.cells?_some h1
      have e0 := hcell 0 (by omega)
      have e1 := hcell 1 (by omega)
      rw [Deep.add_add] at e0 e1
      exact ⟨x, by simpa using e0, by simpa using e1⟩
    obtain ⟨X, hX⟩ := Deep.choose_lt each
    refine ⟨(List.range len).map X, ⟨by simp, hl, hm, (fun e => by cases e), ?_, ?_, ?_⟩⟩
    · intro h1
      obtain ⟨b, off, spot⟩ := a
      have h0 := (hX 0 (by omega)).1
      have hspot : spot = none := by simpa [Addr.add] using World.cell?_spot h0
      exact ⟨b, off, by rw [hspot]⟩
    · intro h1 b o e
      obtain rfl : a = ⟨b, o, none⟩ := Option.some.inj e
      have h0 := (hX 0 (by omega)).1
      rw [Addr.add_lit] at h0
      exact lt_cell h0
    · intro b o e i x hxi
      obtain rfl : a = ⟨b, o, none⟩ := Option.some.inj e
      have hi : i < len := by
        have := (List.getElem?_eq_some_iff.1 hxi).1
        simpa using this
      have hx' : X i = x := by simpa [hi] using hxi
      have := hX i hi
      rw [Addr.add_lit, Addr.add_lit, hx'] at this
      rw [Nat.add_assoc]
      exact this
end

end Go.Proofs.Ytkdnnhjoeaoihaa
