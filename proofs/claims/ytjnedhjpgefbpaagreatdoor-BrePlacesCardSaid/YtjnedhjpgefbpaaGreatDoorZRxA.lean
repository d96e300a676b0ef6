/- Nodes and trees of patterns: of no program. -/
import Derived.Test.YtjnedhjpgefbpaaGreatDoorZSetQ
import Derived.DeepKeys
namespace Go.Proofs.YtjnedhjpgefbpaaGreatDoor
set_option linter.unusedVariables false
set_option linter.unusedSimpArgs false

/-- A node: its kind, the four words of its set, and its numbers. -/
structure Nd where
  kind : Int
  w0 : Nat
  w1 : Nat
  w2 : Nat
  w3 : Nat
  a : Int
  b : Int
  mn : Int
  mx : Int
  n : Int
  deriving DecidableEq

def isCnt (m M : Int) : Bool := if m < 0 ∨ 255 < m then false else decide (M = -1 ∨ (max m 1 ≤ M ∧ M ≤ 255))
def isNum (n : Int) : Bool := decide (1 ≤ n ∧ n ≤ 9)

/-- A node's fields are what its kind asks. -/
def isNd (x : Nd) : Bool :=
  if x.kind = 0 ∨ x.kind = 2 ∨ x.kind = 3 then decide (x = ⟨x.kind, 0, 0, 0, 0, 0, 0, 0, 0, 0⟩)
  else if x.kind = 1 then decide (¬ (x.w0 = 0 ∧ x.w1 = 0 ∧ x.w2 = 0 ∧ x.w3 = 0)) && decide (x = ⟨1, x.w0, x.w1, x.w2, x.w3, 0, 0, 0, 0, 0⟩)
  else if x.kind = 4 ∨ x.kind = 5 then decide (x = ⟨x.kind, 0, 0, 0, 0, x.a, x.b, 0, 0, 0⟩)
  else if x.kind = 6 then isCnt x.mn x.mx && decide (x = ⟨6, 0, 0, 0, 0, x.a, 0, x.mn, x.mx, 0⟩)
  else if x.kind = 7 then isNum x.n && decide (x = ⟨7, 0, 0, 0, 0, x.a, 0, 0, 0, x.n⟩)
  else if x.kind = 8 then isNum x.n && decide (x = ⟨8, 0, 0, 0, 0, 0, 0, 0, 0, x.n⟩)
  else false

/-- What a Go node's numbers keep to. -/
structure Nd.Fits (x : Nd) : Prop where
  k : -9223372036854775808 ≤ x.kind ∧ x.kind ≤ 9223372036854775807
  s0 : x.w0 < 18446744073709551616
  s1 : x.w1 < 18446744073709551616
  s2 : x.w2 < 18446744073709551616
  s3 : x.w3 < 18446744073709551616
  a : -9223372036854775808 ≤ x.a ∧ x.a ≤ 9223372036854775807
  b : -9223372036854775808 ≤ x.b ∧ x.b ≤ 9223372036854775807
  mn : -9223372036854775808 ≤ x.mn ∧ x.mn ≤ 9223372036854775807
  mx : -9223372036854775808 ≤ x.mx ∧ x.mx ≤ 9223372036854775807
  n : -9223372036854775808 ≤ x.n ∧ x.n ≤ 9223372036854775807

end Go.Proofs.YtjnedhjpgefbpaaGreatDoor

namespace Go.Proofs.YtjnedhjpgefbpaaGreatDoor
open Go.RowKit
set_option linter.unusedVariables false
set_option linter.unusedSimpArgs false

/-- A node's ten cells. -/
def Nd.cells (x : Nd) : Array Value := #[.int .i64 x.kind, .int .u64 x.w0, .int .u64 x.w1, .int .u64 x.w2, .int .u64 x.w3, .int .i64 x.a, .int .i64 x.b, .int .i64 x.mn, .int .i64 x.mx, .int .i64 x.n]
def Nd.v (x : Nd) : Value := .agg x.cells
def Nd.lits (x : Nd) : List Lit := [.int .i64 x.kind, .int .u64 x.w0, .int .u64 x.w1, .int .u64 x.w2, .int .u64 x.w3, .int .i64 x.a, .int .i64 x.b, .int .i64 x.mn, .int .i64 x.mx, .int .i64 x.n]

theorem lits_inj (x y : Nd) : x.lits = y.lits ↔ x = y := by
  obtain ⟨k, a0, a1, a2, a3, a, b, m, M, n⟩ := x
  obtain ⟨k', a0', a1', a2', a3', a', b', m', M', n'⟩ := y
  simp [Nd.lits]
  omega

theorem keyNd : Tryz.prog.keyTypeAt 3 46 = true := by kernel_rfl
theorem wf_i64 {x : Int} (h : -9223372036854775808 ≤ x ∧ x ≤ 9223372036854775807) : (Lit.int .i64 x).wf = true := by
  simp [Lit.wf, IntKind.min, IntKind.max, IntKind.signed, IntKind.bits]; omega
theorem wf_u64 {x : Nat} (h : x < 18446744073709551616) : (Lit.int .u64 x).wf = true := by
  simp [Lit.wf, IntKind.min, IntKind.max, IntKind.signed, IntKind.bits]; omega
theorem cellsNd : Tryz.prog.cellsOf 46 = 10 := by kernel_rfl
theorem cellsI : Tryz.prog.cellsOf 3 = 1 := by kernel_rfl
theorem cellsU : Tryz.prog.cellsOf 42 = 1 := by kernel_rfl
theorem cellsSet : Tryz.prog.cellsOf 44 = 4 := by kernel_rfl
theorem lits_nd (x : Nd) (h : x.Fits) : Tryz.prog.keyLits 4 46 x.cells.toList = some x.lits := by
  have hk := wf_i64 h.k; have ha := wf_i64 h.a; have hb := wf_i64 h.b; have hm := wf_i64 h.mn; have hM := wf_i64 h.mx; have hn := wf_i64 h.n
  have h0 := wf_u64 h.s0; have h1 := wf_u64 h.s1; have h2 := wf_u64 h.s2; have h3 := wf_u64 h.s3
  simp [Program.keyLits, Tryz.underlying46, Tryz.underlying3, Tryz.underlying42, Tryz.underlying44, Nd.cells, cellsNd, cellsI, cellsU, cellsSet, hk, ha, hb, hm, hM, hn, h0, h1, h2, h3, show List.range 4 = [0, 1, 2, 3] from rfl, Nd.lits]

set_option maxRecDepth 100000 in
theorem formedNd (x : Nd) : x.v.formed Tryz.prog 46 = true := by
  simp [Value.formed, Nd.v, Nd.cells, Tryz.underlying46, cellsNd]

set_option maxRecDepth 100000 in
theorem eq_nd (x y : Nd) (hx : x.Fits) (hy : y.Fits) (w : World) : (Op.equalIn 10000 46 x.v y.v).run Tryz.prog w = .ok (decide (x = y)) w := by
  obtain ⟨r, hr, hiff⟩ := run_equalIn_deep 9997 3 _ keyNd w 4 4 x.v y.v x.lits y.lits (formedNd x) (formedNd y) (lits_nd x hx) (lits_nd y hy)
  rw [hr]
  congr 1
  rw [Bool.eq_iff_iff, hiff, lits_inj, decide_eq_true_iff]

theorem iscount_c (m M : Int) (w : World) : Calls Tryz.prog 33 #[.int .i64 m, .int .i64 M] w fun e w' => e = .returned (.bool (isCnt m M)) ∧ w' = w := by
  obtain ⟨v, hv⟩ : ∃ v, v = isCnt m M := ⟨_, rfl⟩
  rw [← hv]
  have HV := Lib.hid hv
  clear hv
  go_enter Tryz.func33, Tryz.ntmps33
  go_wp2
  all_goals go_ret
  all_goals (refine ⟨congrArg (fun b => Ending.returned (Value.bool b)) (?_ : _ = v), rfl⟩; rw [HV.out]; clear HV; rw [Bool.eq_iff_iff]; simp only [isCnt, isNum]; (try split) <;> simp <;> omega)

theorem isnumber_c (n : Int) (w : World) : Calls Tryz.prog 34 #[.int .i64 n] w fun e w' => e = .returned (.bool (isNum n)) ∧ w' = w := by
  obtain ⟨v, hv⟩ : ∃ v, v = isNum n := ⟨_, rfl⟩
  rw [← hv]
  have HV := Lib.hid hv
  clear hv
  go_enter Tryz.func34, Tryz.ntmps34
  go_wp2
  all_goals go_ret
  all_goals (refine ⟨congrArg (fun b => Ending.returned (Value.bool b)) (?_ : _ = v), rfl⟩; rw [HV.out]; clear HV; rw [Bool.eq_iff_iff]; simp only [isCnt, isNum]; (try split) <;> simp <;> omega)

end Go.Proofs.YtjnedhjpgefbpaaGreatDoor
