/- The laws' its; the reference's Same. -/
import Derived.Test.YthbldjiibgnfmaaGreatDoorZRxL
import Derived.Test.YthbldjiibgnfmaaGreatDoorZRxTd
namespace Go.Proofs.YthbldjiibgnfmaaGreatDoor
open Go.RowKit
set_option linter.unusedVariables false
set_option linter.unusedSimpArgs false

theorem keyRn : Tryz.prog.keyTypeAt 3 47 = true := by kernel_rfl
theorem cellsRn : Tryz.prog.cellsOf 47 = 10 := by kernel_rfl
theorem cellsA4 : Tryz.prog.cellsOf 23 = 4 := by kernel_rfl
theorem lits_rn (x : Nd) (h : x.Fits) : Tryz.prog.keyLits 4 47 x.cells.toList = some x.lits := by
  have hk := wf_i64 h.k; have ha := wf_i64 h.a; have hb := wf_i64 h.b; have hm := wf_i64 h.mn; have hM := wf_i64 h.mx; have hn := wf_i64 h.n
  have h0 := wf_u64 h.s0; have h1 := wf_u64 h.s1; have h2 := wf_u64 h.s2; have h3 := wf_u64 h.s3
  simp [Program.keyLits, Tryz.underlying47, Tryz.underlying3, Tryz.underlying22, Tryz.underlying23, Nd.cells, cellsRn, cellsI, cellsU, cellsA4, hk, ha, hb, hm, hM, hn, h0, h1, h2, h3, show List.range 4 = [0, 1, 2, 3] from rfl, Nd.lits]
set_option maxRecDepth 100000 in
theorem formedRn (x : Nd) : x.v.formed Tryz.prog 47 = true := by
  simp [Value.formed, Nd.v, Nd.cells, Tryz.underlying47, cellsRn]
set_option maxRecDepth 100000 in
theorem eq_rn (x y : Nd) (hx : x.Fits) (hy : y.Fits) (w : World) : (Op.equalIn 10000 47 x.v y.v).run Tryz.prog w = .ok (decide (x = y)) w := by
  obtain ⟨r, hr, hiff⟩ := run_equalIn_deep 9997 3 _ keyRn w 4 4 x.v y.v x.lits y.lits (formedRn x) (formedRn y) (lits_rn x hx) (lits_rn y hy)
  rw [hr]
  congr 1
  rw [Bool.eq_iff_iff, hiff, lits_inj, decide_eq_true_iff]

theorem NodesAt.alloc {w : World} {b o : Nat} {xs : List Nd} (h : NodesAt w b o xs) (ob : Obj) : NodesAt (w.alloc ob) b o xs := h.below (B := w.heap.size) ((Below.refl _ w).alloc (Nat.le_refl _) ob) h.lt

end Go.Proofs.YthbldjiibgnfmaaGreatDoor
