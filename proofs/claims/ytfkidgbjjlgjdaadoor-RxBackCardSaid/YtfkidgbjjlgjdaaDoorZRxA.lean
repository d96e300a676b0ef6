/- Nodes in Go: their values, and '==' of two. -/
import Derived.Test.YtfkidgbjjlgjdaaDoorZRxN
import Derived.Test.YtfkidgbjjlgjdaaDoorZSetQ
import Derived.DeepKeys
namespace Go.Proofs.YtfkidgbjjlgjdaaDoor
open Go.RowKit
set_option linter.unusedVariables false
set_option linter.unusedSimpArgs false

/-- A node's ten cells. -/
def Nd.cells (x : Nd) : Array Value := #[.int .i64 x.kind, .int .u64 x.w0, .int .u64 x.w1, .int .u64 x.w2, .int .u64 x.w3, .int .i64 x.a, .int .i64 x.b, .int .i64 x.mn, .int .i64 x.mx, .int .i64 x.n]
def Nd.v (x : Nd) : Value := .agg x.cells
def Nd.lits (x : Nd) : List Lit := [.int .i64 x.kind, .int .u64 x.w0, .int .u64 x.w1, .int .u64 x.w2, .int .u64 x.w3, .int .i64 x.a, .int .i64 x.b, .int .i64 x.mn, .int .i64 x.mx, .int .i64 x.n]

theorem lits_inj (x y : Nd) : x.lits = y.lits ↔ x = y := by
  obtain ⟨k, a0, a1, a2, a3, a, b, m, M, n⟩ := x
  obtain ⟨k', a0', a1', a2', a3', a', b', m', M', n'⟩ := y
  simp [Nd.lits]
  omega

theorem keyNd : Tryd.prog.keyTypeAt 3 42 = true := by kernel_rfl
theorem wf_i64 {x : Int} (h : -9223372036854775808 ≤ x ∧ x ≤ 9223372036854775807) : (Lit.int .i64 x).wf = true := by
  simp [Lit.wf, IntKind.min, IntKind.max, IntKind.signed, IntKind.bits]; omega
theorem wf_u64 {x : Nat} (h : x < 18446744073709551616) : (Lit.int .u64 x).wf = true := by
  simp [Lit.wf, IntKind.min, IntKind.max, IntKind.signed, IntKind.bits]; omega
theorem cellsNd : Tryd.prog.cellsOf 42 = 10 := by kernel_rfl
theorem cellsI : Tryd.prog.cellsOf 3 = 1 := by kernel_rfl
theorem cellsU : Tryd.prog.cellsOf 37 = 1 := by kernel_rfl
theorem cellsSet : Tryd.prog.cellsOf 39 = 4 := by kernel_rfl
theorem lits_nd (x : Nd) (h : x.Fits) : Tryd.prog.keyLits 4 42 x.cells.toList = some x.lits := by
  have hk := wf_i64 h.k; have ha := wf_i64 h.a; have hb := wf_i64 h.b; have hm := wf_i64 h.mn; have hM := wf_i64 h.mx; have hn := wf_i64 h.n
  have h0 := wf_u64 h.s0; have h1 := wf_u64 h.s1; have h2 := wf_u64 h.s2; have h3 := wf_u64 h.s3
  simp [Program.keyLits, Tryd.underlying42, Tryd.underlying3, Tryd.underlying37, Tryd.underlying39, Nd.cells, cellsNd, cellsI, cellsU, cellsSet, hk, ha, hb, hm, hM, hn, h0, h1, h2, h3, show List.range 4 = [0, 1, 2, 3] from rfl, Nd.lits]

set_option maxRecDepth 100000 in
theorem formedNd (x : Nd) : x.v.formed Tryd.prog 42 = true := by
  simp [Value.formed, Nd.v, Nd.cells, Tryd.underlying42, cellsNd]

set_option maxRecDepth 100000 in
theorem eq_nd (x y : Nd) (hx : x.Fits) (hy : y.Fits) (w : World) : (Op.equalIn 10000 42 x.v y.v).run Tryd.prog w = .ok (decide (x = y)) w := by
  obtain ⟨r, hr, hiff⟩ := run_equalIn_deep 9997 3 _ keyNd w 4 4 x.v y.v x.lits y.lits (formedNd x) (formedNd y) (lits_nd x hx) (lits_nd y hy)
  rw [hr]
  congr 1
  rw [Bool.eq_iff_iff, hiff, lits_inj, decide_eq_true_iff]

theorem iscount_c (m M : Int) (w : World) : Calls Tryd.prog 55 #[.int .i64 m, .int .i64 M] w fun e w' => e = .returned (.bool (isCnt m M)) ∧ w' = w := by
  obtain ⟨v, hv⟩ : ∃ v, v = isCnt m M := ⟨_, rfl⟩
  rw [← hv]
  have HV := Lib.hid hv
  clear hv
  go_enter Tryd.func55, Tryd.ntmps55
  go_wp2
  all_goals go_ret
  all_goals (refine ⟨congrArg (fun b => Ending.returned (Value.bool b)) (?_ : _ = v), rfl⟩; rw [HV.out]; clear HV; rw [Bool.eq_iff_iff]; simp only [isCnt, isNum]; (try split) <;> simp <;> omega)

theorem isnumber_c (n : Int) (w : World) : Calls Tryd.prog 56 #[.int .i64 n] w fun e w' => e = .returned (.bool (isNum n)) ∧ w' = w := by
  obtain ⟨v, hv⟩ : ∃ v, v = isNum n := ⟨_, rfl⟩
  rw [← hv]
  have HV := Lib.hid hv
  clear hv
  go_enter Tryd.func56, Tryd.ntmps56
  go_wp2
  all_goals go_ret
  all_goals (refine ⟨congrArg (fun b => Ending.returned (Value.bool b)) (?_ : _ = v), rfl⟩; rw [HV.out]; clear HV; rw [Bool.eq_iff_iff]; simp only [isCnt, isNum]; (try split) <;> simp <;> omega)

end Go.Proofs.YtfkidgbjjlgjdaaDoor
