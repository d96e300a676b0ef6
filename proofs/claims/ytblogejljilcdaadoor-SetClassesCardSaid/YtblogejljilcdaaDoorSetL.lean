/- What lifts the walks of stage 2: the listed table's cells; sets and bytes among the arguments. -/
import Derived.Test.YtblogejljilcdaaDoorSetS
import Derived.Test.YtblogejljilcdaaDoorTie
import Derived.Test.YtblogejljilcdaaDoorCards
import Derived.ProofKit
import Derived.LaidMore
import Derived.OpenShut
import Derived.Stop.Joined
import Derived.Lib.LaidTab
import Derived.SevenTiedAt
import Derived.Laws.IdiomArrays
namespace Go.Proofs.YtblogejljilcdaaDoor
open Go.ChangeShapes Go.WideShapes Go.ChangeAt Go.RowKit
set_option linter.unusedVariables false
set_option linter.unusedSimpArgs false

theorem own : ownKnob Tryd.prog.godebug = none := by kernel_rfl
def laidL : List (String × DataW Unit) := [("math/bits.deBruijn64tab", Rows.laid_math_bits_deBruijn64tab)]
theorem gTab : Tryd.prog.globalNamed "math/bits.deBruijn64tab" = some 0 := by kernel_rfl
theorem tTab : (Tryd.prog.globals[0]?).map (·.type) = some 115 := by kernel_rfl

/-- The door's own heap meets the condition: closed facts. -/
theorem door_met (os : Os) (args : Array Value) : laidMetH Tryd.prog laidL ((World.doorLaid Tryd.prog 400 os).forCall (fun _ _ => 0) ⟨#[], args, []⟩).memory :=
  laidMetH_of_parts3 (fuel := 8) (laidMet_of_run' 8 (by kernel_rfl) (by kernel_rfl)) (by kernel_rfl) (by kernel_rfl)

theorem laid_eq : laidL = [("math/bits.deBruijn64tab", Lib.tabData .u8 (Lib.deBruijn64tab.map (fun k : Nat => (k : Int))))] := by
  simp [laidL, Rows.laid_math_bits_deBruijn64tab, Lib.tabData, Lib.deBruijn64tab]

theorem fit_of_laid {W : World} (h : laidMetH Tryd.prog laidL W) : Fit W := by
  rw [MakeChecks.laidMetH_plain _ _ _ (by kernel_rfl), laid_eq] at h
  have ht := Lib.tabIs_of_head gTab tTab Tryd.underlying115 Tryd.underlying5 (by kernel_rfl) (by kernel_rfl) h
  have hc : TabAt 0 Lib.deBruijn64tab W := fun j hj => by
    rw [World.var?_cell gTab ht j]
    simp [List.getD, List.getElem?_eq_getElem hj]
  exact ⟨hc, cell_lt (hc 0 (by decide))⟩

/-- What a set reads as. -/
def setD {H : Type} (f : Nat → Bool) : DataW H := .agg [.lit (.int .u64 (wd f 0)), .lit (.int .u64 (wd f 1)), .lit (.int .u64 (wd f 2)), .lit (.int .u64 (wd f 3))]

theorem list4 {α : Type} (l : List α) (h : (⟨l⟩ : Array α).size = 4) : ∃ a b c d, l = [a, b, c, d] := by
  match l, h with
  | [a, b, c, d], _ => exact ⟨a, b, c, d, rfl⟩
theorem cells22 : Tryd.prog.cellsOf 22 = 1 := by kernel_rfl
theorem cells24 : Tryd.prog.cellsOf 24 = 4 := by kernel_rfl
theorem wf_word (f : Nat → Bool) (k : Nat) : (Lit.int .u64 (wd f k : Int)).wf = true := by
  have := wd_lt f k
  simp [Lit.wf, IntKind.min, IntKind.max, IntKind.signed, IntKind.bits]
  omega
theorem word_of_wf {x : Int} (h : (Lit.int .u64 x).wf = true) : ∃ n : Nat, x = n ∧ n < 18446744073709551616 := by
  simp [Lit.wf, IntKind.min, IntKind.max, IntKind.signed, IntKind.bits] at h
  exact ⟨x.toNat, by omega, by omega⟩

section
variable {H : Type} {enc : TypeId × Value → H} {W : World} {base b0 : Nat} {sp : Nat → Bool} {held : Bool} {r : Reach}

set_option maxRecDepth 100000 in
set_option maxHeartbeats 1000000 in
theorem open_set {v : Value} {d : DataW H} {ps : List MemPlace} (hval : Value.okWide Tryd.prog W r b0 24 v) (hd : DataW.Trod enc Tryd.prog W base sp held 24 v d ps) :
    ∃ f, v = sv f ∧ d = setD f ∧ ps = [] := by
  obtain ⟨cs, rfl, hsz, _⟩ : ∃ cs, v = .agg cs ∧ cs.size = Tryd.prog.cellsOf 24 ∧ Row.okWide Tryd.prog W r b0 24 cs := by
    simpa [Value.okWide, Tryd.underlying24] using hval
  rw [cells24] at hsz
  obtain ⟨l⟩ := cs
  obtain ⟨c0, c1, c2, c3, rfl⟩ := list4 l hsz
  obtain ⟨fuel, hf⟩ := hd
  obtain ⟨y0, y1, y2, y3, m, hx, hy0, hy1, hy2, hy3⟩ := trod_array4 Tryd.underlying24 cells22 hf
  obtain ⟨x0, e0, rfl, w0⟩ := DataW.trod_int Tryd.underlying22 hy0
  obtain ⟨x1, e1, rfl, w1⟩ := DataW.trod_int Tryd.underlying22 hy1
  obtain ⟨x2, e2, rfl, w2⟩ := DataW.trod_int Tryd.underlying22 hy2
  obtain ⟨x3, e3, rfl, w3⟩ := DataW.trod_int Tryd.underlying22 hy3
  simp at e0 e1 e2 e3
  subst e0 e1 e2 e3
  simp only [Prod.mk.injEq] at hx
  obtain ⟨rfl, rfl⟩ := hx
  obtain ⟨n0, rfl, l0⟩ := word_of_wf w0
  obtain ⟨n1, rfl, l1⟩ := word_of_wf w1
  obtain ⟨n2, rfl, l2⟩ := word_of_wf w2
  obtain ⟨n3, rfl, l3⟩ := word_of_wf w3
  obtain ⟨g0, g1, g2, g3⟩ := ofWords_wd l0 l1 l2 l3
  refine ⟨ofWords n0 n1 n2 n3, ?_, ?_, rfl⟩
  · unfold sv; rw [g0, g1, g2, g3]
  · unfold setD; rw [g0, g1, g2, g3]

set_option maxRecDepth 100000 in
theorem shut_set (f : Nat → Bool) : DataW.Trod enc Tryd.prog W base sp held 24 (sv f) (setD f) [] :=
  ⟨2, by simp [sv, setD, DataW.trod, Value.cells, Tryd.underlying24, Tryd.underlying22, cells24, cells22, wf_word, show List.range 4 = [0, 1, 2, 3] from rfl]⟩

set_option maxRecDepth 100000 in
theorem open_byte {v : Value} {d : DataW H} {ps : List MemPlace} (hval : Value.okWide Tryd.prog W r b0 5 v) (hd : DataW.Trod enc Tryd.prog W base sp held 5 v d ps) :
    ∃ n : Nat, v = .int .u8 n ∧ d = .lit (.int .u8 n) ∧ ps = [] ∧ n < 256 := by
  obtain ⟨x, rfl, rfl, rfl, wx⟩ := open_int Tryd.underlying5 hval hd
  have := bounds_u8 wx
  obtain ⟨n, rfl⟩ : ∃ n : Nat, x = n := ⟨x.toNat, by omega⟩
  exact ⟨n, rfl, rfl, rfl, by omega⟩

set_option maxRecDepth 100000 in
theorem shut_byte {n : Nat} (h : n < 256) : DataW.Trod enc Tryd.prog W base sp held 5 (.int .u8 n) (.lit (.int .u8 n)) [] := by
  refine shut_int Tryd.underlying5 ?_
  simp [Lit.wf, IntKind.min, IntKind.max, IntKind.signed, IntKind.bits]
  omega
end

end Go.Proofs.YtblogejljilcdaaDoor
