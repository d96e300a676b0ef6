/- What lifts the walks of stage 4. -/
import Derived.Test.YthbldjiibgnfmaaGreatDoorZRxL
import Derived.Test.YthbldjiibgnfmaaGreatDoorZBrKj
import Derived.Laws.IdiomArrays
namespace Go.Proofs.YthbldjiibgnfmaaGreatDoor
open Go.ChangeShapes Go.WideShapes Go.ChangeAt Go.RowKit
set_option linter.unusedVariables false
set_option linter.unusedSimpArgs false

theorem Fit4.five {w : World} (h : Fit4 w) : Fit5 w := ⟨h.f, h.v.max, h.v.syn⟩

end Go.Proofs.YthbldjiibgnfmaaGreatDoor

namespace Go.Proofs.YthbldjiibgnfmaaGreatDoor
open Go.ChangeShapes Go.WideShapes Go.ChangeAt Go.RowKit
set_option linter.unusedVariables false
set_option linter.unusedSimpArgs false

/-- What a set reads as. -/
def setDQ {H : Type} (f : Nat → Bool) : DataW H := .agg [.lit (.int .u64 (wd f 0)), .lit (.int .u64 (wd f 1)), .lit (.int .u64 (wd f 2)), .lit (.int .u64 (wd f 3))]

theorem list4Q {α : Type} (l : List α) (h : (⟨l⟩ : Array α).size = 4) : ∃ a b c d, l = [a, b, c, d] := by
  match l, h with
  | [a, b, c, d], _ => exact ⟨a, b, c, d, rfl⟩
theorem cells22Q : Tryz.prog.cellsOf 22 = 1 := by kernel_rfl
theorem cells24Q : Tryz.prog.cellsOf 24 = 4 := by kernel_rfl
theorem wf_wordQ (f : Nat → Bool) (k : Nat) : (Lit.int .u64 (wd f k : Int)).wf = true := by
  have := wd_lt f k
  simp [Lit.wf, IntKind.min, IntKind.max, IntKind.signed, IntKind.bits]
  omega
section
variable {H : Type} {enc : TypeId × Value → H} {W : World} {base b0 : Nat} {sp : Nat → Bool} {held : Bool} {r : Reach}

set_option maxRecDepth 100000 in
set_option maxHeartbeats 1000000 in
theorem open_setQ {v : Value} {d : DataW H} {ps : List MemPlace} (hval : Value.okWide Tryz.prog W r b0 24 v) (hd : DataW.Trod enc Tryz.prog W base sp held 24 v d ps) :
    ∃ f, v = sv f ∧ d = setDQ f ∧ ps = [] := by
  obtain ⟨cs, rfl, hsz, _⟩ : ∃ cs, v = .agg cs ∧ cs.size = Tryz.prog.cellsOf 24 ∧ Row.okWide Tryz.prog W r b0 24 cs := by
    simpa [Value.okWide, Tryz.underlying24] using hval
  rw [cells24Q] at hsz
  obtain ⟨l⟩ := cs
  obtain ⟨c0, c1, c2, c3, rfl⟩ := list4Q l hsz
  obtain ⟨fuel, hf⟩ := hd
  obtain ⟨y0, y1, y2, y3, m, hx, hy0, hy1, hy2, hy3⟩ := trod_array4 Tryz.underlying24 cells22Q hf
  obtain ⟨x0, e0, rfl, w0⟩ := DataW.trod_int Tryz.underlying22 hy0
  obtain ⟨x1, e1, rfl, w1⟩ := DataW.trod_int Tryz.underlying22 hy1
  obtain ⟨x2, e2, rfl, w2⟩ := DataW.trod_int Tryz.underlying22 hy2
  obtain ⟨x3, e3, rfl, w3⟩ := DataW.trod_int Tryz.underlying22 hy3
  simp at e0 e1 e2 e3
  subst e0 e1 e2 e3
  simp only [Prod.mk.injEq] at hx
  obtain ⟨rfl, rfl⟩ := hx
  obtain ⟨n0, rfl, l0⟩ := word_of_wf w0
  obtain ⟨n1, rfl, l1⟩ := word_of_wf w1
  obtain ⟨n2, rfl, l2⟩ := word_of_wf w2
  obtain ⟨n3, rfl, l3⟩ := word_of_wf w3
  obtain ⟨g0, g1, g2, g3⟩ := ofWords_wd l0 l1 l2 l3
  refine ⟨ofWords n0 n1 n2 n3, ?_, ?_, rfl⟩
  · unfold sv; rw [g0, g1, g2, g3]
  · unfold setDQ; rw [g0, g1, g2, g3]

set_option maxRecDepth 100000 in
theorem shut_setQ (f : Nat → Bool) : DataW.Trod enc Tryz.prog W base sp held 24 (sv f) (setDQ f) [] :=
  ⟨2, by simp [sv, setDQ, DataW.trod, Value.cells, Tryz.underlying24, Tryz.underlying22, cells24Q, cells22Q, wf_wordQ, show List.range 4 = [0, 1, 2, 3] from rfl]⟩

end

end Go.Proofs.YthbldjiibgnfmaaGreatDoor
