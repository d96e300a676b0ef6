/- The reference's through: a Group; all. -/
import Derived.Test.YthcgboebmhabeaaGreatDoorZRxRh
namespace Go.Proofs.YthcgboebmhabeaaGreatDoor
open Go.RowKit
set_option linter.unusedVariables false
set_option linter.unusedSimpArgs false

theorem WB.loadAt {w : World} {b : Nat} {v : Array Value} (h : WB w b v) (hs : v.size = 13) : (Instr.loadAt 49 (.pointer (some ⟨b, 0, none⟩))).run Tryz.prog w = .ok (.agg v) w := by
  simp only [Instr.loadAt, Instr.sureAddr, Sem.run_bind, Sem.run_pure, Result.andThen]
  exact h.load hs
theorem wpList_load_wb {ops : Array Oper} {rest : List Oper} {o : Oper} {a : Act} {Q : Exit → Act → World → Prop} {w : World} {b : Nat} {v : Array Value} (h : WB w b v) (hs : v.size = 13) (hgd : o.guard = none) {x : Operand}
    (ho : o.op = .load 49 x) (hx : a.eval x = .pointer (some ⟨b, 0, none⟩)) (hK : wpList Tryz.prog ops Q rest (a.put o.dst (.agg v)) w) : wpList Tryz.prog ops Q (o :: rest) a w := by
  refine wpList_plain hgd fun K hK' => ?_
  unfold Oper.wp execOp
  simp only [ho, hx, h.loadAt hs, Sem.run_bind, Sem.run_pure, Result.andThen_ok]
  exact hK' _ _ hK

set_option maxRecDepth 100000 in
set_option maxHeartbeats 8000000 in
theorem thru_group1 (b o0 n cap : Nat) (xs : List Nd) (hlen : xs.length = n) (hn : n ≤ 120) (t : T) (ih : Thru b o0 n cap xs t) : Thru b o0 n cap xs (T.group 1 t) := by
  rintro o k ⟨g, j, en, r⟩ w ha he hk hj hw
  have hr := ha.root
  rw [show o + (T.group 1 t).size - 1 = k by omega] at hr
  have lb := hw.lt
  have hk1 : (k : Int) < n := by omega
  have ha1 := ha.1
  have sa := t.size_pos
  simp only [T.size] at he hj
  simp only [T.root] at hr
  obtain ⟨pa, hpa⟩ : ∃ pa : Nat, o + t.size = pa + 1 := ⟨o + t.size - 1, by omega⟩
  rw [show (o : Int) + t.size - 1 = (pa : Int) by omega] at hr
  have hcell := hw.cell k _ hr
  have d0 : w.cell? ⟨b, o0 + k * 10, none⟩ = some (.int .i64 7) := hcell 0 _ rfl
  have d1 : w.cell? ⟨b, o0 + k * 10 + 1, none⟩ = some (.int .u64 0) := hcell 1 _ rfl
  have d2 : w.cell? ⟨b, o0 + k * 10 + 2, none⟩ = some (.int .u64 0) := hcell 2 _ rfl
  have d3 : w.cell? ⟨b, o0 + k * 10 + 3, none⟩ = some (.int .u64 0) := hcell 3 _ rfl
  have d4 : w.cell? ⟨b, o0 + k * 10 + 4, none⟩ = some (.int .u64 0) := hcell 4 _ rfl
  have d5 : w.cell? ⟨b, o0 + k * 10 + 5, none⟩ = some (.int .i64 pa) := hcell 5 _ rfl
  have d6 : w.cell? ⟨b, o0 + k * 10 + 6, none⟩ = some (.int .i64 0) := hcell 6 _ rfl
  have d7 : w.cell? ⟨b, o0 + k * 10 + 7, none⟩ = some (.int .i64 0) := hcell 7 _ rfl
  have d8 : w.cell? ⟨b, o0 + k * 10 + 8, none⟩ = some (.int .i64 0) := hcell 8 _ rfl
  have d9 : w.cell? ⟨b, o0 + k * 10 + 9, none⟩ = some (.int .i64 1) := hcell 9 _ rfl
  have hpn : (pa : Int) < n := by omega
  have hwj : IntKind.i64.wrap ((j : Int) + 1) = (j : Int) + 1 := by simp [IntKind.wrap, IntKind.signed, IntKind.bits]; omega
  have et : thr (decide (n = 1)) (T.group 1 t) ⟨g, j, en, r⟩ = ⟨(thr (decide (n = 1)) t ⟨g && decide ((j : Int) + 1 = 1), j + 1, en, r⟩).g, (thr (decide (n = 1)) t ⟨g && decide ((j : Int) + 1 = 1), j + 1, en, r⟩).k, fun i => if i = 1 then true else (thr (decide (n = 1)) t ⟨g && decide ((j : Int) + 1 = 1), j + 1, en, r⟩).en i, (thr (decide (n = 1)) t ⟨g && decide ((j : Int) + 1 = 1), j + 1, en, r⟩).r⟩ := rfl
  rw [et]
  clear hcell et hr
  by_cases hj1 : (j : Int) + 1 = 1
  · rw [decide_eq_true hj1, Bool.and_true]
    have fj : ((j : Int) + 1 == 1) = true := by simp [hj1]
    have fj2 : ((j : Int) + 1 != 1) = false := by simp [hj1]
    clear hj1
    have IA := ih o pa ⟨g, j + 1, en, r⟩ _ ha1 hpa (by omega) (by show j + 1 + t.size ≤ 1000; omega) (((hw.alloc (.cells #[.bool g, .int .i64 ((j : Int) + 1), .bool (en 0), .bool (en 1), .bool (en 2), .bool (en 3), .bool (en 4), .bool (en 5), .bool (en 6), .bool (en 7), .bool (en 8), .bool (en 9), .bool r] 49)).alloc (.cells #[.bool false, .int .i64 0, .bool false, .bool false, .bool false, .bool false, .bool false, .bool false, .bool false, .bool false, .bool false, .bool false, .bool false] 49)).alloc (.cells #[.int .i64 7, .int .u64 0, .int .u64 0, .int .u64 0, .int .u64 0, .int .i64 pa, .int .i64 0, .int .i64 0, .int .i64 0, .int .i64 1] 45))
    have hS0 : ThS w b o0 xs ⟨7, 0, 0, 0, 0, pa, 0, 0, 0, 1⟩ ⟨g, j + 1, en, r⟩ (((w.alloc (.cells #[.bool g, .int .i64 ((j : Int) + 1), .bool (en 0), .bool (en 1), .bool (en 2), .bool (en 3), .bool (en 4), .bool (en 5), .bool (en 6), .bool (en 7), .bool (en 8), .bool (en 9), .bool r] 49)).alloc (.cells #[.bool false, .int .i64 0, .bool false, .bool false, .bool false, .bool false, .bool false, .bool false, .bool false, .bool false, .bool false, .bool false, .bool false] 49)).alloc (.cells #[.int .i64 7, .int .u64 0, .int .u64 0, .int .u64 0, .int .u64 0, .int .i64 pa, .int .i64 0, .int .i64 0, .int .i64 0, .int .i64 1] 45)) := ThS.new hw ⟨7, 0, 0, 0, 0, pa, 0, 0, 0, 1⟩ ⟨g, j + 1, en, r⟩ #[.bool false, .int .i64 0, .bool false, .bool false, .bool false, .bool false, .bool false, .bool false, .bool false, .bool false, .bool false, .bool false, .bool false] rfl
    generalize thr (decide (n = 1)) t ⟨g, j + 1, en, r⟩ = U at *
    have hus : U.cells.size = 13 := rfl
    have hua : U.cells.all (·.oneCell') = true := Wk.cells_all _
    have hcn : U.cells[3]? = some (.bool (U.en 1)) := rfl
    have hc2 : (Wk.mk U.g U.k (fun i => if i = 1 then true else U.en i) U.r).cells = U.cells.setIfInBounds 3 (.bool true) := rfl
    rw [hc2]
    have hua2 : (U.cells.setIfInBounds 3 (.bool true)).all (·.oneCell') = true := by rw [← hc2]; exact Wk.cells_all _
    have hus2 : (U.cells.setIfInBounds 3 (.bool true)).size = 13 := by rw [← hc2]; rfl
    generalize U.en 1 = eN at *
    generalize U.cells = C at *
    have IA1 := Lib.hid IA
    clear IA hc2
    simp only [Wk.cells, Int.natCast_add, Int.natCast_one] at IA1
    simp only [Wk.cells]
    go_enter Tryz.func44, Tryz.ntmps44
    go_wp2_with fail
    refine IA1.out.mono ?_
    rintro e W1 ⟨rfl, hB1⟩
    have hS1 := hS0.step hB1
    obtain ⟨v1, hv1, hz1⟩ := hS1.rb
    have hst := hS1.wb.storeC rfl C hus hua
    have hp5 := hS1.wb.put C
    have nb5 : (W1.setRow w.heap.size C).heap[w.heap.size + 2]? = _ := (heap_setRow C (by omega)).trans hS1.nb
    have rb5 : WB (W1.setRow w.heap.size C) (w.heap.size + 1) v1 := ⟨(heap_setRow C (by omega)).trans hv1.heap⟩
    have z9 : (W1.setRow w.heap.size C).cell? ⟨w.heap.size + 1 + 1, 9, none⟩ = some (.int .i64 1) := (cell_of _ _ _ _ nb5 9).trans rfl
    have z5 : (W1.setRow w.heap.size C).cell? ⟨w.heap.size, 3, none⟩ = some (.bool eN) := (hp5.cell 3).trans hcn
    have zf : (W1.setRow w.heap.size C).frozen? ⟨w.heap.size, 3, none⟩ = false := hp5.fz 3
    have hb5 : Below w.heap.size w (W1.setRow w.heap.size C) := Below.setRow hS1.b (Nat.le_refl _) _
    have h6 : ((W1.setRow w.heap.size C).setCell ⟨w.heap.size, 3, none⟩ (.bool true)).heap[w.heap.size]? = some (.cells (C.setIfInBounds 3 (.bool true)) 49 (0, 0)) := heap_setCell_same _ _ _ _ _ _ hp5.heap
    have wb6 : WB ((W1.setRow w.heap.size C).setCell ⟨w.heap.size, 3, none⟩ (.bool true)) w.heap.size (C.setIfInBounds 3 (.bool true)) := ⟨h6⟩
    have rb6 : WB ((W1.setRow w.heap.size C).setCell ⟨w.heap.size, 3, none⟩ (.bool true)) (w.heap.size + 1) v1 := ⟨(Below.heap_setCell _ _ _ _ (by show w.heap.size + 1 ≠ w.heap.size; omega)).trans rb5.heap⟩
    have hb6 : Below w.heap.size w ((W1.setRow w.heap.size C).setCell ⟨w.heap.size, 3, none⟩ (.bool true)) := hb5.setCell (Nat.le_refl _) _
    generalize hC2 : C.setIfInBounds 3 (.bool true) = C2 at *
    have ql6 := wb6.load hus2
    have hst6 := rb6.storeC hz1 C2 hus2 hua2
    have hput6 := rb6.put C2
    have hbp := Below.setRow hb6 (b := w.heap.size + 1) (by omega) C2
    have HC2 := Lib.hid hC2
    clear hC2 h6 hp5 nb5 rb5 rb6 hb5 hb6 hcn
    go_wp2_with (refine wpList_load_wb wb6 hus2 rfl rfl rfl ?_)
    have ql := hput6.load hus2
    refine bodyPost_ret (v := .agg C2) (by simp [results, Tryz.results44, asAddr, Result.andThen, ql]) rfl ⟨by rw [HC2.out], hbp⟩
  · rw [decide_eq_false hj1, Bool.and_false]
    have fj : ((j : Int) + 1 == 1) = false := by rw [beq_eq_false_iff_ne]; exact hj1
    have fj2 : ((j : Int) + 1 != 1) = true := by simp [hj1]
    clear hj1
    have IA := ih o pa ⟨false, j + 1, en, r⟩ _ ha1 hpa (by omega) (by show j + 1 + t.size ≤ 1000; omega) (((hw.alloc (.cells #[.bool false, .int .i64 ((j : Int) + 1), .bool (en 0), .bool (en 1), .bool (en 2), .bool (en 3), .bool (en 4), .bool (en 5), .bool (en 6), .bool (en 7), .bool (en 8), .bool (en 9), .bool r] 49)).alloc (.cells #[.bool false, .int .i64 0, .bool false, .bool false, .bool false, .bool false, .bool false, .bool false, .bool false, .bool false, .bool false, .bool false, .bool false] 49)).alloc (.cells #[.int .i64 7, .int .u64 0, .int .u64 0, .int .u64 0, .int .u64 0, .int .i64 pa, .int .i64 0, .int .i64 0, .int .i64 0, .int .i64 1] 45))
    have hS0 : ThS w b o0 xs ⟨7, 0, 0, 0, 0, pa, 0, 0, 0, 1⟩ ⟨false, j + 1, en, r⟩ (((w.alloc (.cells #[.bool false, .int .i64 ((j : Int) + 1), .bool (en 0), .bool (en 1), .bool (en 2), .bool (en 3), .bool (en 4), .bool (en 5), .bool (en 6), .bool (en 7), .bool (en 8), .bool (en 9), .bool r] 49)).alloc (.cells #[.bool false, .int .i64 0, .bool false, .bool false, .bool false, .bool false, .bool false, .bool false, .bool false, .bool false, .bool false, .bool false, .bool false] 49)).alloc (.cells #[.int .i64 7, .int .u64 0, .int .u64 0, .int .u64 0, .int .u64 0, .int .i64 pa, .int .i64 0, .int .i64 0, .int .i64 0, .int .i64 1] 45)) := ThS.new hw ⟨7, 0, 0, 0, 0, pa, 0, 0, 0, 1⟩ ⟨false, j + 1, en, r⟩ #[.bool false, .int .i64 0, .bool false, .bool false, .bool false, .bool false, .bool false, .bool false, .bool false, .bool false, .bool false, .bool false, .bool false] rfl
    generalize thr (decide (n = 1)) t ⟨false, j + 1, en, r⟩ = U at *
    have hus : U.cells.size = 13 := rfl
    have hua : U.cells.all (·.oneCell') = true := Wk.cells_all _
    have hcn : U.cells[3]? = some (.bool (U.en 1)) := rfl
    have hc2 : (Wk.mk U.g U.k (fun i => if i = 1 then true else U.en i) U.r).cells = U.cells.setIfInBounds 3 (.bool true) := rfl
    rw [hc2]
    have hua2 : (U.cells.setIfInBounds 3 (.bool true)).all (·.oneCell') = true := by rw [← hc2]; exact Wk.cells_all _
    have hus2 : (U.cells.setIfInBounds 3 (.bool true)).size = 13 := by rw [← hc2]; rfl
    generalize U.en 1 = eN at *
    generalize U.cells = C at *
    have IA1 := Lib.hid IA
    clear IA hc2
    simp only [Wk.cells, Int.natCast_add, Int.natCast_one] at IA1
    simp only [Wk.cells]
    go_enter Tryz.func44, Tryz.ntmps44
    go_wp2_with fail
    refine IA1.out.mono ?_
    rintro e W1 ⟨rfl, hB1⟩
    have hS1 := hS0.step hB1
    obtain ⟨v1, hv1, hz1⟩ := hS1.rb
    have hst := hS1.wb.storeC rfl C hus hua
    have hp5 := hS1.wb.put C
    have nb5 : (W1.setRow w.heap.size C).heap[w.heap.size + 2]? = _ := (heap_setRow C (by omega)).trans hS1.nb
    have rb5 : WB (W1.setRow w.heap.size C) (w.heap.size + 1) v1 := ⟨(heap_setRow C (by omega)).trans hv1.heap⟩
    have z9 : (W1.setRow w.heap.size C).cell? ⟨w.heap.size + 1 + 1, 9, none⟩ = some (.int .i64 1) := (cell_of _ _ _ _ nb5 9).trans rfl
    have z5 : (W1.setRow w.heap.size C).cell? ⟨w.heap.size, 3, none⟩ = some (.bool eN) := (hp5.cell 3).trans hcn
    have zf : (W1.setRow w.heap.size C).frozen? ⟨w.heap.size, 3, none⟩ = false := hp5.fz 3
    have hb5 : Below w.heap.size w (W1.setRow w.heap.size C) := Below.setRow hS1.b (Nat.le_refl _) _
    have h6 : ((W1.setRow w.heap.size C).setCell ⟨w.heap.size, 3, none⟩ (.bool true)).heap[w.heap.size]? = some (.cells (C.setIfInBounds 3 (.bool true)) 49 (0, 0)) := heap_setCell_same _ _ _ _ _ _ hp5.heap
    have wb6 : WB ((W1.setRow w.heap.size C).setCell ⟨w.heap.size, 3, none⟩ (.bool true)) w.heap.size (C.setIfInBounds 3 (.bool true)) := ⟨h6⟩
    have rb6 : WB ((W1.setRow w.heap.size C).setCell ⟨w.heap.size, 3, none⟩ (.bool true)) (w.heap.size + 1) v1 := ⟨(Below.heap_setCell _ _ _ _ (by show w.heap.size + 1 ≠ w.heap.size; omega)).trans rb5.heap⟩
    have hb6 : Below w.heap.size w ((W1.setRow w.heap.size C).setCell ⟨w.heap.size, 3, none⟩ (.bool true)) := hb5.setCell (Nat.le_refl _) _
    generalize hC2 : C.setIfInBounds 3 (.bool true) = C2 at *
    have ql6 := wb6.load hus2
    have hst6 := rb6.storeC hz1 C2 hus2 hua2
    have hput6 := rb6.put C2
    have hbp := Below.setRow hb6 (b := w.heap.size + 1) (by omega) C2
    have HC2 := Lib.hid hC2
    clear hC2 h6 hp5 nb5 rb5 rb6 hb5 hb6 hcn
    go_wp2_with (refine wpList_load_wb wb6 hus2 rfl rfl rfl ?_)
    have ql := hput6.load hus2
    refine bodyPost_ret (v := .agg C2) (by simp [results, Tryz.results44, asAddr, Result.andThen, ql]) rfl ⟨by rw [HC2.out], hbp⟩

set_option maxRecDepth 100000 in
set_option maxHeartbeats 8000000 in
theorem thru_group2 (b o0 n cap : Nat) (xs : List Nd) (hlen : xs.length = n) (hn : n ≤ 120) (t : T) (ih : Thru b o0 n cap xs t) : Thru b o0 n cap xs (T.group 2 t) := by
  rintro o k ⟨g, j, en, r⟩ w ha he hk hj hw
  have hr := ha.root
  rw [show o + (T.group 2 t).size - 1 = k by omega] at hr
  have lb := hw.lt
  have hk1 : (k : Int) < n := by omega
  have ha1 := ha.1
  have sa := t.size_pos
  simp only [T.size] at he hj
  simp only [T.root] at hr
  obtain ⟨pa, hpa⟩ : ∃ pa : Nat, o + t.size = pa + 1 := ⟨o + t.size - 1, by omega⟩
  rw [show (o : Int) + t.size - 1 = (pa : Int) by omega] at hr
  have hcell := hw.cell k _ hr
  have d0 : w.cell? ⟨b, o0 + k * 10, none⟩ = some (.int .i64 7) := hcell 0 _ rfl
  have d1 : w.cell? ⟨b, o0 + k * 10 + 1, none⟩ = some (.int .u64 0) := hcell 1 _ rfl
  have d2 : w.cell? ⟨b, o0 + k * 10 + 2, none⟩ = some (.int .u64 0) := hcell 2 _ rfl
  have d3 : w.cell? ⟨b, o0 + k * 10 + 3, none⟩ = some (.int .u64 0) := hcell 3 _ rfl
  have d4 : w.cell? ⟨b, o0 + k * 10 + 4, none⟩ = some (.int .u64 0) := hcell 4 _ rfl
  have d5 : w.cell? ⟨b, o0 + k * 10 + 5, none⟩ = some (.int .i64 pa) := hcell 5 _ rfl
  have d6 : w.cell? ⟨b, o0 + k * 10 + 6, none⟩ = some (.int .i64 0) := hcell 6 _ rfl
  have d7 : w.cell? ⟨b, o0 + k * 10 + 7, none⟩ = some (.int .i64 0) := hcell 7 _ rfl
  have d8 : w.cell? ⟨b, o0 + k * 10 + 8, none⟩ = some (.int .i64 0) := hcell 8 _ rfl
  have d9 : w.cell? ⟨b, o0 + k * 10 + 9, none⟩ = some (.int .i64 2) := hcell 9 _ rfl
  have hpn : (pa : Int) < n := by omega
  have hwj : IntKind.i64.wrap ((j : Int) + 1) = (j : Int) + 1 := by simp [IntKind.wrap, IntKind.signed, IntKind.bits]; omega
  have et : thr (decide (n = 1)) (T.group 2 t) ⟨g, j, en, r⟩ = ⟨(thr (decide (n = 1)) t ⟨g && decide ((j : Int) + 1 = 2), j + 1, en, r⟩).g, (thr (decide (n = 1)) t ⟨g && decide ((j : Int) + 1 = 2), j + 1, en, r⟩).k, fun i => if i = 2 then true else (thr (decide (n = 1)) t ⟨g && decide ((j : Int) + 1 = 2), j + 1, en, r⟩).en i, (thr (decide (n = 1)) t ⟨g && decide ((j : Int) + 1 = 2), j + 1, en, r⟩).r⟩ := rfl
  rw [et]
  clear hcell et hr
  by_cases hj1 : (j : Int) + 1 = 2
  · rw [decide_eq_true hj1, Bool.and_true]
    have fj : ((j : Int) + 1 == 2) = true := by simp [hj1]
    have fj2 : ((j : Int) + 1 != 2) = false := by simp [hj1]
    clear hj1
    have IA := ih o pa ⟨g, j + 1, en, r⟩ _ ha1 hpa (by omega) (by show j + 1 + t.size ≤ 1000; omega) (((hw.alloc (.cells #[.bool g, .int .i64 ((j : Int) + 1), .bool (en 0), .bool (en 1), .bool (en 2), .bool (en 3), .bool (en 4), .bool (en 5), .bool (en 6), .bool (en 7), .bool (en 8), .bool (en 9), .bool r] 49)).alloc (.cells #[.bool false, .int .i64 0, .bool false, .bool false, .bool false, .bool false, .bool false, .bool false, .bool false, .bool false, .bool false, .bool false, .bool false] 49)).alloc (.cells #[.int .i64 7, .int .u64 0, .int .u64 0, .int .u64 0, .int .u64 0, .int .i64 pa, .int .i64 0, .int .i64 0, .int .i64 0, .int .i64 2] 45))
    have hS0 : ThS w b o0 xs ⟨7, 0, 0, 0, 0, pa, 0, 0, 0, 2⟩ ⟨g, j + 1, en, r⟩ (((w.alloc (.cells #[.bool g, .int .i64 ((j : Int) + 1), .bool (en 0), .bool (en 1), .bool (en 2), .bool (en 3), .bool (en 4), .bool (en 5), .bool (en 6), .bool (en 7), .bool (en 8), .bool (en 9), .bool r] 49)).alloc (.cells #[.bool false, .int .i64 0, .bool false, .bool false, .bool false, .bool false, .bool false, .bool false, .bool false, .bool false, .bool false, .bool false, .bool false] 49)).alloc (.cells #[.int .i64 7, .int .u64 0, .int .u64 0, .int .u64 0, .int .u64 0, .int .i64 pa, .int .i64 0, .int .i64 0, .int .i64 0, .int .i64 2] 45)) := ThS.new hw ⟨7, 0, 0, 0, 0, pa, 0, 0, 0, 2⟩ ⟨g, j + 1, en, r⟩ #[.bool false, .int .i64 0, .bool false, .bool false, .bool false, .bool false, .bool false, .bool false, .bool false, .bool false, .bool false, .bool false, .bool false] rfl
    generalize thr (decide (n = 1)) t ⟨g, j + 1, en, r⟩ = U at *
    have hus : U.cells.size = 13 := rfl
    have hua : U.cells.all (·.oneCell') = true := Wk.cells_all _
    have hcn : U.cells[4]? = some (.bool (U.en 2)) := rfl
    have hc2 : (Wk.mk U.g U.k (fun i => if i = 2 then true else U.en i) U.r).cells = U.cells.setIfInBounds 4 (.bool true) := rfl
    rw [hc2]
    have hua2 : (U.cells.setIfInBounds 4 (.bool true)).all (·.oneCell') = true := by rw [← hc2]; exact Wk.cells_all _
    have hus2 : (U.cells.setIfInBounds 4 (.bool true)).size = 13 := by rw [← hc2]; rfl
    generalize U.en 2 = eN at *
    generalize U.cells = C at *
    have IA1 := Lib.hid IA
    clear IA hc2
    simp only [Wk.cells, Int.natCast_add, Int.natCast_one] at IA1
    simp only [Wk.cells]
    go_enter Tryz.func44, Tryz.ntmps44
    go_wp2_with fail
    refine IA1.out.mono ?_
    rintro e W1 ⟨rfl, hB1⟩
    have hS1 := hS0.step hB1
    obtain ⟨v1, hv1, hz1⟩ := hS1.rb
    have hst := hS1.wb.storeC rfl C hus hua
    have hp5 := hS1.wb.put C
    have nb5 : (W1.setRow w.heap.size C).heap[w.heap.size + 2]? = _ := (heap_setRow C (by omega)).trans hS1.nb
    have rb5 : WB (W1.setRow w.heap.size C) (w.heap.size + 1) v1 := ⟨(heap_setRow C (by omega)).trans hv1.heap⟩
    have z9 : (W1.setRow w.heap.size C).cell? ⟨w.heap.size + 1 + 1, 9, none⟩ = some (.int .i64 2) := (cell_of _ _ _ _ nb5 9).trans rfl
    have z5 : (W1.setRow w.heap.size C).cell? ⟨w.heap.size, 4, none⟩ = some (.bool eN) := (hp5.cell 4).trans hcn
    have zf : (W1.setRow w.heap.size C).frozen? ⟨w.heap.size, 4, none⟩ = false := hp5.fz 4
    have hb5 : Below w.heap.size w (W1.setRow w.heap.size C) := Below.setRow hS1.b (Nat.le_refl _) _
    have h6 : ((W1.setRow w.heap.size C).setCell ⟨w.heap.size, 4, none⟩ (.bool true)).heap[w.heap.size]? = some (.cells (C.setIfInBounds 4 (.bool true)) 49 (0, 0)) := heap_setCell_same _ _ _ _ _ _ hp5.heap
    have wb6 : WB ((W1.setRow w.heap.size C).setCell ⟨w.heap.size, 4, none⟩ (.bool true)) w.heap.size (C.setIfInBounds 4 (.bool true)) := ⟨h6⟩
    have rb6 : WB ((W1.setRow w.heap.size C).setCell ⟨w.heap.size, 4, none⟩ (.bool true)) (w.heap.size + 1) v1 := ⟨(Below.heap_setCell _ _ _ _ (by show w.heap.size + 1 ≠ w.heap.size; omega)).trans rb5.heap⟩
    have hb6 : Below w.heap.size w ((W1.setRow w.heap.size C).setCell ⟨w.heap.size, 4, none⟩ (.bool true)) := hb5.setCell (Nat.le_refl _) _
    generalize hC2 : C.setIfInBounds 4 (.bool true) = C2 at *
    have ql6 := wb6.load hus2
    have hst6 := rb6.storeC hz1 C2 hus2 hua2
    have hput6 := rb6.put C2
    have hbp := Below.setRow hb6 (b := w.heap.size + 1) (by omega) C2
    have HC2 := Lib.hid hC2
    clear hC2 h6 hp5 nb5 rb5 rb6 hb5 hb6 hcn
    go_wp2_with (refine wpList_load_wb wb6 hus2 rfl rfl rfl ?_)
    have ql := hput6.load hus2
    refine bodyPost_ret (v := .agg C2) (by simp [results, Tryz.results44, asAddr, Result.andThen, ql]) rfl ⟨by rw [HC2.out], hbp⟩
  · rw [decide_eq_false hj1, Bool.and_false]
    have fj : ((j : Int) + 1 == 2) = false := by rw [beq_eq_false_iff_ne]; exact hj1
    have fj2 : ((j : Int) + 1 != 2) = true := by simp [hj1]
    clear hj1
    have IA := ih o pa ⟨false, j + 1, en, r⟩ _ ha1 hpa (by omega) (by show j + 1 + t.size ≤ 1000; omega) (((hw.alloc (.cells #[.bool false, .int .i64 ((j : Int) + 1), .bool (en 0), .bool (en 1), .bool (en 2), .bool (en 3), .bool (en 4), .bool (en 5), .bool (en 6), .bool (en 7), .bool (en 8), .bool (en 9), .bool r] 49)).alloc (.cells #[.bool false, .int .i64 0, .bool false, .bool false, .bool false, .bool false, .bool false, .bool false, .bool false, .bool false, .bool false, .bool false, .bool false] 49)).alloc (.cells #[.int .i64 7, .int .u64 0, .int .u64 0, .int .u64 0, .int .u64 0, .int .i64 pa, .int .i64 0, .int .i64 0, .int .i64 0, .int .i64 2] 45))
    have hS0 : ThS w b o0 xs ⟨7, 0, 0, 0, 0, pa, 0, 0, 0, 2⟩ ⟨false, j + 1, en, r⟩ (((w.alloc (.cells #[.bool false, .int .i64 ((j : Int) + 1), .bool (en 0), .bool (en 1), .bool (en 2), .bool (en 3), .bool (en 4), .bool (en 5), .bool (en 6), .bool (en 7), .bool (en 8), .bool (en 9), .bool r] 49)).alloc (.cells #[.bool false, .int .i64 0, .bool false, .bool false, .bool false, .bool false, .bool false, .bool false, .bool false, .bool false, .bool false, .bool false, .bool false] 49)).alloc (.cells #[.int .i64 7, .int .u64 0, .int .u64 0, .int .u64 0, .int .u64 0, .int .i64 pa, .int .i64 0, .int .i64 0, .int .i64 0, .int .i64 2] 45)) := ThS.new hw ⟨7, 0, 0, 0, 0, pa, 0, 0, 0, 2⟩ ⟨false, j + 1, en, r⟩ #[.bool false, .int .i64 0, .bool false, .bool false, .bool false, .bool false, .bool false, .bool false, .bool false, .bool false, .bool false, .bool false, .bool false] rfl
    generalize thr (decide (n = 1)) t ⟨false, j + 1, en, r⟩ = U at *
    have hus : U.cells.size = 13 := rfl
    have hua : U.cells.all (·.oneCell') = true := Wk.cells_all _
    have hcn : U.cells[4]? = some (.bool (U.en 2)) := rfl
    have hc2 : (Wk.mk U.g U.k (fun i => if i = 2 then true else U.en i) U.r).cells = U.cells.setIfInBounds 4 (.bool true) := rfl
    rw [hc2]
    have hua2 : (U.cells.setIfInBounds 4 (.bool true)).all (·.oneCell') = true := by rw [← hc2]; exact Wk.cells_all _
    have hus2 : (U.cells.setIfInBounds 4 (.bool true)).size = 13 := by rw [← hc2]; rfl
    generalize U.en 2 = eN at *
    generalize U.cells = C at *
    have IA1 := Lib.hid IA
    clear IA hc2
    simp only [Wk.cells, Int.natCast_add, Int.natCast_one] at IA1
    simp only [Wk.cells]
    go_enter Tryz.func44, Tryz.ntmps44
    go_wp2_with fail
    refine IA1.out.mono ?_
    rintro e W1 ⟨rfl, hB1⟩
    have hS1 := hS0.step hB1
    obtain ⟨v1, hv1, hz1⟩ := hS1.rb
    have hst := hS1.wb.storeC rfl C hus hua
    have hp5 := hS1.wb.put C
    have nb5 : (W1.setRow w.heap.size C).heap[w.heap.size + 2]? = _ := (heap_setRow C (by omega)).trans hS1.nb
    have rb5 : WB (W1.setRow w.heap.size C) (w.heap.size + 1) v1 := ⟨(heap_setRow C (by omega)).trans hv1.heap⟩
    have z9 : (W1.setRow w.heap.size C).cell? ⟨w.heap.size + 1 + 1, 9, none⟩ = some (.int .i64 2) := (cell_of _ _ _ _ nb5 9).trans rfl
    have z5 : (W1.setRow w.heap.size C).cell? ⟨w.heap.size, 4, none⟩ = some (.bool eN) := (hp5.cell 4).trans hcn
    have zf : (W1.setRow w.heap.size C).frozen? ⟨w.heap.size, 4, none⟩ = false := hp5.fz 4
    have hb5 : Below w.heap.size w (W1.setRow w.heap.size C) := Below.setRow hS1.b (Nat.le_refl _) _
    have h6 : ((W1.setRow w.heap.size C).setCell ⟨w.heap.size, 4, none⟩ (.bool true)).heap[w.heap.size]? = some (.cells (C.setIfInBounds 4 (.bool true)) 49 (0, 0)) := heap_setCell_same _ _ _ _ _ _ hp5.heap
    have wb6 : WB ((W1.setRow w.heap.size C).setCell ⟨w.heap.size, 4, none⟩ (.bool true)) w.heap.size (C.setIfInBounds 4 (.bool true)) := ⟨h6⟩
    have rb6 : WB ((W1.setRow w.heap.size C).setCell ⟨w.heap.size, 4, none⟩ (.bool true)) (w.heap.size + 1) v1 := ⟨(Below.heap_setCell _ _ _ _ (by show w.heap.size + 1 ≠ w.heap.size; omega)).trans rb5.heap⟩
    have hb6 : Below w.heap.size w ((W1.setRow w.heap.size C).setCell ⟨w.heap.size, 4, none⟩ (.bool true)) := hb5.setCell (Nat.le_refl _) _
    generalize hC2 : C.setIfInBounds 4 (.bool true) = C2 at *
    have ql6 := wb6.load hus2
    have hst6 := rb6.storeC hz1 C2 hus2 hua2
    have hput6 := rb6.put C2
    have hbp := Below.setRow hb6 (b := w.heap.size + 1) (by omega) C2
    have HC2 := Lib.hid hC2
    clear hC2 h6 hp5 nb5 rb5 rb6 hb5 hb6 hcn
    go_wp2_with (refine wpList_load_wb wb6 hus2 rfl rfl rfl ?_)
    have ql := hput6.load hus2
    refine bodyPost_ret (v := .agg C2) (by simp [results, Tryz.results44, asAddr, Result.andThen, ql]) rfl ⟨by rw [HC2.out], hbp⟩

set_option maxRecDepth 100000 in
set_option maxHeartbeats 8000000 in
theorem thru_group3 (b o0 n cap : Nat) (xs : List Nd) (hlen : xs.length = n) (hn : n ≤ 120) (t : T) (ih : Thru b o0 n cap xs t) : Thru b o0 n cap xs (T.group 3 t) := by
  rintro o k ⟨g, j, en, r⟩ w ha he hk hj hw
  have hr := ha.root
  rw [show o + (T.group 3 t).size - 1 = k by omega] at hr
  have lb := hw.lt
  have hk1 : (k : Int) < n := by omega
  have ha1 := ha.1
  have sa := t.size_pos
  simp only [T.size] at he hj
  simp only [T.root] at hr
  obtain ⟨pa, hpa⟩ : ∃ pa : Nat, o + t.size = pa + 1 := ⟨o + t.size - 1, by omega⟩
  rw [show (o : Int) + t.size - 1 = (pa : Int) by omega] at hr
  have hcell := hw.cell k _ hr
  have d0 : w.cell? ⟨b, o0 + k * 10, none⟩ = some (.int .i64 7) := hcell 0 _ rfl
  have d1 : w.cell? ⟨b, o0 + k * 10 + 1, none⟩ = some (.int .u64 0) := hcell 1 _ rfl
  have d2 : w.cell? ⟨b, o0 + k * 10 + 2, none⟩ = some (.int .u64 0) := hcell 2 _ rfl
  have d3 : w.cell? ⟨b, o0 + k * 10 + 3, none⟩ = some (.int .u64 0) := hcell 3 _ rfl
  have d4 : w.cell? ⟨b, o0 + k * 10 + 4, none⟩ = some (.int .u64 0) := hcell 4 _ rfl
  have d5 : w.cell? ⟨b, o0 + k * 10 + 5, none⟩ = some (.int .i64 pa) := hcell 5 _ rfl
  have d6 : w.cell? ⟨b, o0 + k * 10 + 6, none⟩ = some (.int .i64 0) := hcell 6 _ rfl
  have d7 : w.cell? ⟨b, o0 + k * 10 + 7, none⟩ = some (.int .i64 0) := hcell 7 _ rfl
  have d8 : w.cell? ⟨b, o0 + k * 10 + 8, none⟩ = some (.int .i64 0) := hcell 8 _ rfl
  have d9 : w.cell? ⟨b, o0 + k * 10 + 9, none⟩ = some (.int .i64 3) := hcell 9 _ rfl
  have hpn : (pa : Int) < n := by omega
  have hwj : IntKind.i64.wrap ((j : Int) + 1) = (j : Int) + 1 := by simp [IntKind.wrap, IntKind.signed, IntKind.bits]; omega
  have et : thr (decide (n = 1)) (T.group 3 t) ⟨g, j, en, r⟩ = ⟨(thr (decide (n = 1)) t ⟨g && decide ((j : Int) + 1 = 3), j + 1, en, r⟩).g, (thr (decide (n = 1)) t ⟨g && decide ((j : Int) + 1 = 3), j + 1, en, r⟩).k, fun i => if i = 3 then true else (thr (decide (n = 1)) t ⟨g && decide ((j : Int) + 1 = 3), j + 1, en, r⟩).en i, (thr (decide (n = 1)) t ⟨g && decide ((j : Int) + 1 = 3), j + 1, en, r⟩).r⟩ := rfl
  rw [et]
  clear hcell et hr
  by_cases hj1 : (j : Int) + 1 = 3
  · rw [decide_eq_true hj1, Bool.and_true]
    have fj : ((j : Int) + 1 == 3) = true := by simp [hj1]
    have fj2 : ((j : Int) + 1 != 3) = false := by simp [hj1]
    clear hj1
    have IA := ih o pa ⟨g, j + 1, en, r⟩ _ ha1 hpa (by omega) (by show j + 1 + t.size ≤ 1000; omega) (((hw.alloc (.cells #[.bool g, .int .i64 ((j : Int) + 1), .bool (en 0), .bool (en 1), .bool (en 2), .bool (en 3), .bool (en 4), .bool (en 5), .bool (en 6), .bool (en 7), .bool (en 8), .bool (en 9), .bool r] 49)).alloc (.cells #[.bool false, .int .i64 0, .bool false, .bool false, .bool false, .bool false, .bool false, .bool false, .bool false, .bool false, .bool false, .bool false, .bool false] 49)).alloc (.cells #[.int .i64 7, .int .u64 0, .int .u64 0, .int .u64 0, .int .u64 0, .int .i64 pa, .int .i64 0, .int .i64 0, .int .i64 0, .int .i64 3] 45))
    have hS0 : ThS w b o0 xs ⟨7, 0, 0, 0, 0, pa, 0, 0, 0, 3⟩ ⟨g, j + 1, en, r⟩ (((w.alloc (.cells #[.bool g, .int .i64 ((j : Int) + 1), .bool (en 0), .bool (en 1), .bool (en 2), .bool (en 3), .bool (en 4), .bool (en 5), .bool (en 6), .bool (en 7), .bool (en 8), .bool (en 9), .bool r] 49)).alloc (.cells #[.bool false, .int .i64 0, .bool false, .bool false, .bool false, .bool false, .bool false, .bool false, .bool false, .bool false, .bool false, .bool false, .bool false] 49)).alloc (.cells #[.int .i64 7, .int .u64 0, .int .u64 0, .int .u64 0, .int .u64 0, .int .i64 pa, .int .i64 0, .int .i64 0, .int .i64 0, .int .i64 3] 45)) := ThS.new hw ⟨7, 0, 0, 0, 0, pa, 0, 0, 0, 3⟩ ⟨g, j + 1, en, r⟩ #[.bool false, .int .i64 0, .bool false, .bool false, .bool false, .bool false, .bool false, .bool false, .bool false, .bool false, .bool false, .bool false, .bool false] rfl
    generalize thr (decide (n = 1)) t ⟨g, j + 1, en, r⟩ = U at *
    have hus : U.cells.size = 13 := rfl
    have hua : U.cells.all (·.oneCell') = true := Wk.cells_all _
    have hcn : U.cells[5]? = some (.bool (U.en 3)) := rfl
    have hc2 : (Wk.mk U.g U.k (fun i => if i = 3 then true else U.en i) U.r).cells = U.cells.setIfInBounds 5 (.bool true) := rfl
    rw [hc2]
    have hua2 : (U.cells.setIfInBounds 5 (.bool true)).all (·.oneCell') = true := by rw [← hc2]; exact Wk.cells_all _
    have hus2 : (U.cells.setIfInBounds 5 (.bool true)).size = 13 := by rw [← hc2]; rfl
    generalize U.en 3 = eN at *
    generalize U.cells = C at *
    have IA1 := Lib.hid IA
    clear IA hc2
    simp only [Wk.cells, Int.natCast_add, Int.natCast_one] at IA1
    simp only [Wk.cells]
    go_enter Tryz.func44, Tryz.ntmps44
    go_wp2_with fail
    refine IA1.out.mono ?_
    rintro e W1 ⟨rfl, hB1⟩
    have hS1 := hS0.step hB1
    obtain ⟨v1, hv1, hz1⟩ := hS1.rb
    have hst := hS1.wb.storeC rfl C hus hua
    have hp5 := hS1.wb.put C
    have nb5 : (W1.setRow w.heap.size C).heap[w.heap.size + 2]? = _ := (heap_setRow C (by omega)).trans hS1.nb
    have rb5 : WB (W1.setRow w.heap.size C) (w.heap.size + 1) v1 := ⟨(heap_setRow C (by omega)).trans hv1.heap⟩
    have z9 : (W1.setRow w.heap.size C).cell? ⟨w.heap.size + 1 + 1, 9, none⟩ = some (.int .i64 3) := (cell_of _ _ _ _ nb5 9).trans rfl
    have z5 : (W1.setRow w.heap.size C).cell? ⟨w.heap.size, 5, none⟩ = some (.bool eN) := (hp5.cell 5).trans hcn
    have zf : (W1.setRow w.heap.size C).frozen? ⟨w.heap.size, 5, none⟩ = false := hp5.fz 5
    have hb5 : Below w.heap.size w (W1.setRow w.heap.size C) := Below.setRow hS1.b (Nat.le_refl _) _
    have h6 : ((W1.setRow w.heap.size C).setCell ⟨w.heap.size, 5, none⟩ (.bool true)).heap[w.heap.size]? = some (.cells (C.setIfInBounds 5 (.bool true)) 49 (0, 0)) := heap_setCell_same _ _ _ _ _ _ hp5.heap
    have wb6 : WB ((W1.setRow w.heap.size C).setCell ⟨w.heap.size, 5, none⟩ (.bool true)) w.heap.size (C.setIfInBounds 5 (.bool true)) := ⟨h6⟩
    have rb6 : WB ((W1.setRow w.heap.size C).setCell ⟨w.heap.size, 5, none⟩ (.bool true)) (w.heap.size + 1) v1 := ⟨(Below.heap_setCell _ _ _ _ (by show w.heap.size + 1 ≠ w.heap.size; omega)).trans rb5.heap⟩
    have hb6 : Below w.heap.size w ((W1.setRow w.heap.size C).setCell ⟨w.heap.size, 5, none⟩ (.bool true)) := hb5.setCell (Nat.le_refl _) _
    generalize hC2 : C.setIfInBounds 5 (.bool true) = C2 at *
    have ql6 := wb6.load hus2
    have hst6 := rb6.storeC hz1 C2 hus2 hua2
    have hput6 := rb6.put C2
    have hbp := Below.setRow hb6 (b := w.heap.size + 1) (by omega) C2
    have HC2 := Lib.hid hC2
    clear hC2 h6 hp5 nb5 rb5 rb6 hb5 hb6 hcn
    go_wp2_with (refine wpList_load_wb wb6 hus2 rfl rfl rfl ?_)
    have ql := hput6.load hus2
    refine bodyPost_ret (v := .agg C2) (by simp [results, Tryz.results44, asAddr, Result.andThen, ql]) rfl ⟨by rw [HC2.out], hbp⟩
  · rw [decide_eq_false hj1, Bool.and_false]
    have fj : ((j : Int) + 1 == 3) = false := by rw [beq_eq_false_iff_ne]; exact hj1
    have fj2 : ((j : Int) + 1 != 3) = true := by simp [hj1]
    clear hj1
    have IA := ih o pa ⟨false, j + 1, en, r⟩ _ ha1 hpa (by omega) (by show j + 1 + t.size ≤ 1000; omega) (((hw.alloc (.cells #[.bool false, .int .i64 ((j : Int) + 1), .bool (en 0), .bool (en 1), .bool (en 2), .bool (en 3), .bool (en 4), .bool (en 5), .bool (en 6), .bool (en 7), .bool (en 8), .bool (en 9), .bool r] 49)).alloc (.cells #[.bool false, .int .i64 0, .bool false, .bool false, .bool false, .bool false, .bool false, .bool false, .bool false, .bool false, .bool false, .bool false, .bool false] 49)).alloc (.cells #[.int .i64 7, .int .u64 0, .int .u64 0, .int .u64 0, .int .u64 0, .int .i64 pa, .int .i64 0, .int .i64 0, .int .i64 0, .int .i64 3] 45))
    have hS0 : ThS w b o0 xs ⟨7, 0, 0, 0, 0, pa, 0, 0, 0, 3⟩ ⟨false, j + 1, en, r⟩ (((w.alloc (.cells #[.bool false, .int .i64 ((j : Int) + 1), .bool (en 0), .bool (en 1), .bool (en 2), .bool (en 3), .bool (en 4), .bool (en 5), .bool (en 6), .bool (en 7), .bool (en 8), .bool (en 9), .bool r] 49)).alloc (.cells #[.bool false, .int .i64 0, .bool false, .bool false, .bool false, .bool false, .bool false, .bool false, .bool false, .bool false, .bool false, .bool false, .bool false] 49)).alloc (.cells #[.int .i64 7, .int .u64 0, .int .u64 0, .int .u64 0, .int .u64 0, .int .i64 pa, .int .i64 0, .int .i64 0, .int .i64 0, .int .i64 3] 45)) := ThS.new hw ⟨7, 0, 0, 0, 0, pa, 0, 0, 0, 3⟩ ⟨false, j + 1, en, r⟩ #[.bool false, .int .i64 0, .bool false, .bool false, .bool false, .bool false, .bool false, .bool false, .bool false, .bool false, .bool false, .bool false, .bool false] rfl
    generalize thr (decide (n = 1)) t ⟨false, j + 1, en, r⟩ = U at *
    have hus : U.cells.size = 13 := rfl
    have hua : U.cells.all (·.oneCell') = true := Wk.cells_all _
    have hcn : U.cells[5]? = some (.bool (U.en 3)) := rfl
    have hc2 : (Wk.mk U.g U.k (fun i => if i = 3 then true else U.en i) U.r).cells = U.cells.setIfInBounds 5 (.bool true) := rfl
    rw [hc2]
    have hua2 : (U.cells.setIfInBounds 5 (.bool true)).all (·.oneCell') = true := by rw [← hc2]; exact Wk.cells_all _
    have hus2 : (U.cells.setIfInBounds 5 (.bool true)).size = 13 := by rw [← hc2]; rfl
    generalize U.en 3 = eN at *
    generalize U.cells = C at *
    have IA1 := Lib.hid IA
    clear IA hc2
    simp only [Wk.cells, Int.natCast_add, Int.natCast_one] at IA1
    simp only [Wk.cells]
    go_enter Tryz.func44, Tryz.ntmps44
    go_wp2_with fail
    refine IA1.out.mono ?_
    rintro e W1 ⟨rfl, hB1⟩
    have hS1 := hS0.step hB1
    obtain ⟨v1, hv1, hz1⟩ := hS1.rb
    have hst := hS1.wb.storeC rfl C hus hua
    have hp5 := hS1.wb.put C
    have nb5 : (W1.setRow w.heap.size C).heap[w.heap.size + 2]? = _ := (heap_setRow C (by omega)).trans hS1.nb
    have rb5 : WB (W1.setRow w.heap.size C) (w.heap.size + 1) v1 := ⟨(heap_setRow C (by omega)).trans hv1.heap⟩
    have z9 : (W1.setRow w.heap.size C).cell? ⟨w.heap.size + 1 + 1, 9, none⟩ = some (.int .i64 3) := (cell_of _ _ _ _ nb5 9).trans rfl
    have z5 : (W1.setRow w.heap.size C).cell? ⟨w.heap.size, 5, none⟩ = some (.bool eN) := (hp5.cell 5).trans hcn
    have zf : (W1.setRow w.heap.size C).frozen? ⟨w.heap.size, 5, none⟩ = false := hp5.fz 5
    have hb5 : Below w.heap.size w (W1.setRow w.heap.size C) := Below.setRow hS1.b (Nat.le_refl _) _
    have h6 : ((W1.setRow w.heap.size C).setCell ⟨w.heap.size, 5, none⟩ (.bool true)).heap[w.heap.size]? = some (.cells (C.setIfInBounds 5 (.bool true)) 49 (0, 0)) := heap_setCell_same _ _ _ _ _ _ hp5.heap
    have wb6 : WB ((W1.setRow w.heap.size C).setCell ⟨w.heap.size, 5, none⟩ (.bool true)) w.heap.size (C.setIfInBounds 5 (.bool true)) := ⟨h6⟩
    have rb6 : WB ((W1.setRow w.heap.size C).setCell ⟨w.heap.size, 5, none⟩ (.bool true)) (w.heap.size + 1) v1 := ⟨(Below.heap_setCell _ _ _ _ (by show w.heap.size + 1 ≠ w.heap.size; omega)).trans rb5.heap⟩
    have hb6 : Below w.heap.size w ((W1.setRow w.heap.size C).setCell ⟨w.heap.size, 5, none⟩ (.bool true)) := hb5.setCell (Nat.le_refl _) _
    generalize hC2 : C.setIfInBounds 5 (.bool true) = C2 at *
    have ql6 := wb6.load hus2
    have hst6 := rb6.storeC hz1 C2 hus2 hua2
    have hput6 := rb6.put C2
    have hbp := Below.setRow hb6 (b := w.heap.size + 1) (by omega) C2
    have HC2 := Lib.hid hC2
    clear hC2 h6 hp5 nb5 rb5 rb6 hb5 hb6 hcn
    go_wp2_with (refine wpList_load_wb wb6 hus2 rfl rfl rfl ?_)
    have ql := hput6.load hus2
    refine bodyPost_ret (v := .agg C2) (by simp [results, Tryz.results44, asAddr, Result.andThen, ql]) rfl ⟨by rw [HC2.out], hbp⟩

set_option maxRecDepth 100000 in
set_option maxHeartbeats 8000000 in
theorem thru_group4 (b o0 n cap : Nat) (xs : List Nd) (hlen : xs.length = n) (hn : n ≤ 120) (t : T) (ih : Thru b o0 n cap xs t) : Thru b o0 n cap xs (T.group 4 t) := by
  rintro o k ⟨g, j, en, r⟩ w ha he hk hj hw
  have hr := ha.root
  rw [show o + (T.group 4 t).size - 1 = k by omega] at hr
  have lb := hw.lt
  have hk1 : (k : Int) < n := by omega
  have ha1 := ha.1
  have sa := t.size_pos
  simp only [T.size] at he hj
  simp only [T.root] at hr
  obtain ⟨pa, hpa⟩ : ∃ pa : Nat, o + t.size = pa + 1 := ⟨o + t.size - 1, by omega⟩
  rw [show (o : Int) + t.size - 1 = (pa : Int) by omega] at hr
  have hcell := hw.cell k _ hr
  have d0 : w.cell? ⟨b, o0 + k * 10, none⟩ = some (.int .i64 7) := hcell 0 _ rfl
  have d1 : w.cell? ⟨b, o0 + k * 10 + 1, none⟩ = some (.int .u64 0) := hcell 1 _ rfl
  have d2 : w.cell? ⟨b, o0 + k * 10 + 2, none⟩ = some (.int .u64 0) := hcell 2 _ rfl
  have d3 : w.cell? ⟨b, o0 + k * 10 + 3, none⟩ = some (.int .u64 0) := hcell 3 _ rfl
  have d4 : w.cell? ⟨b, o0 + k * 10 + 4, none⟩ = some (.int .u64 0) := hcell 4 _ rfl
  have d5 : w.cell? ⟨b, o0 + k * 10 + 5, none⟩ = some (.int .i64 pa) := hcell 5 _ rfl
  have d6 : w.cell? ⟨b, o0 + k * 10 + 6, none⟩ = some (.int .i64 0) := hcell 6 _ rfl
  have d7 : w.cell? ⟨b, o0 + k * 10 + 7, none⟩ = some (.int .i64 0) := hcell 7 _ rfl
  have d8 : w.cell? ⟨b, o0 + k * 10 + 8, none⟩ = some (.int .i64 0) := hcell 8 _ rfl
  have d9 : w.cell? ⟨b, o0 + k * 10 + 9, none⟩ = some (.int .i64 4) := hcell 9 _ rfl
  have hpn : (pa : Int) < n := by omega
  have hwj : IntKind.i64.wrap ((j : Int) + 1) = (j : Int) + 1 := by simp [IntKind.wrap, IntKind.signed, IntKind.bits]; omega
  have et : thr (decide (n = 1)) (T.group 4 t) ⟨g, j, en, r⟩ = ⟨(thr (decide (n = 1)) t ⟨g && decide ((j : Int) + 1 = 4), j + 1, en, r⟩).g, (thr (decide (n = 1)) t ⟨g && decide ((j : Int) + 1 = 4), j + 1, en, r⟩).k, fun i => if i = 4 then true else (thr (decide (n = 1)) t ⟨g && decide ((j : Int) + 1 = 4), j + 1, en, r⟩).en i, (thr (decide (n = 1)) t ⟨g && decide ((j : Int) + 1 = 4), j + 1, en, r⟩).r⟩ := rfl
  rw [et]
  clear hcell et hr
  by_cases hj1 : (j : Int) + 1 = 4
  · rw [decide_eq_true hj1, Bool.and_true]
    have fj : ((j : Int) + 1 == 4) = true := by simp [hj1]
    have fj2 : ((j : Int) + 1 != 4) = false := by simp [hj1]
    clear hj1
    have IA := ih o pa ⟨g, j + 1, en, r⟩ _ ha1 hpa (by omega) (by show j + 1 + t.size ≤ 1000; omega) (((hw.alloc (.cells #[.bool g, .int .i64 ((j : Int) + 1), .bool (en 0), .bool (en 1), .bool (en 2), .bool (en 3), .bool (en 4), .bool (en 5), .bool (en 6), .bool (en 7), .bool (en 8), .bool (en 9), .bool r] 49)).alloc (.cells #[.bool false, .int .i64 0, .bool false, .bool false, .bool false, .bool false, .bool false, .bool false, .bool false, .bool false, .bool false, .bool false, .bool false] 49)).alloc (.cells #[.int .i64 7, .int .u64 0, .int .u64 0, .int .u64 0, .int .u64 0, .int .i64 pa, .int .i64 0, .int .i64 0, .int .i64 0, .int .i64 4] 45))
    have hS0 : ThS w b o0 xs ⟨7, 0, 0, 0, 0, pa, 0, 0, 0, 4⟩ ⟨g, j + 1, en, r⟩ (((w.alloc (.cells #[.bool g, .int .i64 ((j : Int) + 1), .bool (en 0), .bool (en 1), .bool (en 2), .bool (en 3), .bool (en 4), .bool (en 5), .bool (en 6), .bool (en 7), .bool (en 8), .bool (en 9), .bool r] 49)).alloc (.cells #[.bool false, .int .i64 0, .bool false, .bool false, .bool false, .bool false, .bool false, .bool false, .bool false, .bool false, .bool false, .bool false, .bool false] 49)).alloc (.cells #[.int .i64 7, .int .u64 0, .int .u64 0, .int .u64 0, .int .u64 0, .int .i64 pa, .int .i64 0, .int .i64 0, .int .i64 0, .int .i64 4] 45)) := ThS.new hw ⟨7, 0, 0, 0, 0, pa, 0, 0, 0, 4⟩ ⟨g, j + 1, en, r⟩ #[.bool false, .int .i64 0, .bool false, .bool false, .bool false, .bool false, .bool false, .bool false, .bool false, .bool false, .bool false, .bool false, .bool false] rfl
    generalize thr (decide (n = 1)) t ⟨g, j + 1, en, r⟩ = U at *
    have hus : U.cells.size = 13 := rfl
    have hua : U.cells.all (·.oneCell') = true := Wk.cells_all _
    have hcn : U.cells[6]? = some (.bool (U.en 4)) := rfl
    have hc2 : (Wk.mk U.g U.k (fun i => if i = 4 then true else U.en i) U.r).cells = U.cells.setIfInBounds 6 (.bool true) := rfl
    rw [hc2]
    have hua2 : (U.cells.setIfInBounds 6 (.bool true)).all (·.oneCell') = true := by rw [← hc2]; exact Wk.cells_all _
    have hus2 : (U.cells.setIfInBounds 6 (.bool true)).size = 13 := by rw [← hc2]; rfl
    generalize U.en 4 = eN at *
    generalize U.cells = C at *
    have IA1 := Lib.hid IA
    clear IA hc2
    simp only [Wk.cells, Int.natCast_add, Int.natCast_one] at IA1
    simp only [Wk.cells]
    go_enter Tryz.func44, Tryz.ntmps44
    go_wp2_with fail
    refine IA1.out.mono ?_
    rintro e W1 ⟨rfl, hB1⟩
    have hS1 := hS0.step hB1
    obtain ⟨v1, hv1, hz1⟩ := hS1.rb
    have hst := hS1.wb.storeC rfl C hus hua
    have hp5 := hS1.wb.put C
    have nb5 : (W1.setRow w.heap.size C).heap[w.heap.size + 2]? = _ := (heap_setRow C (by omega)).trans hS1.nb
    have rb5 : WB (W1.setRow w.heap.size C) (w.heap.size + 1) v1 := ⟨(heap_setRow C (by omega)).trans hv1.heap⟩
    have z9 : (W1.setRow w.heap.size C).cell? ⟨w.heap.size + 1 + 1, 9, none⟩ = some (.int .i64 4) := (cell_of _ _ _ _ nb5 9).trans rfl
    have z5 : (W1.setRow w.heap.size C).cell? ⟨w.heap.size, 6, none⟩ = some (.bool eN) := (hp5.cell 6).trans hcn
    have zf : (W1.setRow w.heap.size C).frozen? ⟨w.heap.size, 6, none⟩ = false := hp5.fz 6
    have hb5 : Below w.heap.size w (W1.setRow w.heap.size C) := Below.setRow hS1.b (Nat.le_refl _) _
    have h6 : ((W1.setRow w.heap.size C).setCell ⟨w.heap.size, 6, none⟩ (.bool true)).heap[w.heap.size]? = some (.cells (C.setIfInBounds 6 (.bool true)) 49 (0, 0)) := heap_setCell_same _ _ _ _ _ _ hp5.heap
    have wb6 : WB ((W1.setRow w.heap.size C).setCell ⟨w.heap.size, 6, none⟩ (.bool true)) w.heap.size (C.setIfInBounds 6 (.bool true)) := ⟨h6⟩
    have rb6 : WB ((W1.setRow w.heap.size C).setCell ⟨w.heap.size, 6, none⟩ (.bool true)) (w.heap.size + 1) v1 := ⟨(Below.heap_setCell _ _ _ _ (by show w.heap.size + 1 ≠ w.heap.size; omega)).trans rb5.heap⟩
    have hb6 : Below w.heap.size w ((W1.setRow w.heap.size C).setCell ⟨w.heap.size, 6, none⟩ (.bool true)) := hb5.setCell (Nat.le_refl _) _
    generalize hC2 : C.setIfInBounds 6 (.bool true) = C2 at *
    have ql6 := wb6.load hus2
    have hst6 := rb6.storeC hz1 C2 hus2 hua2
    have hput6 := rb6.put C2
    have hbp := Below.setRow hb6 (b := w.heap.size + 1) (by omega) C2
    have HC2 := Lib.hid hC2
    clear hC2 h6 hp5 nb5 rb5 rb6 hb5 hb6 hcn
    go_wp2_with (refine wpList_load_wb wb6 hus2 rfl rfl rfl ?_)
    have ql := hput6.load hus2
    refine bodyPost_ret (v := .agg C2) (by simp [results, Tryz.results44, asAddr, Result.andThen, ql]) rfl ⟨by rw [HC2.out], hbp⟩
  · rw [decide_eq_false hj1, Bool.and_false]
    have fj : ((j : Int) + 1 == 4) = false := by rw [beq_eq_false_iff_ne]; exact hj1
    have fj2 : ((j : Int) + 1 != 4) = true := by simp [hj1]
    clear hj1
    have IA := ih o pa ⟨false, j + 1, en, r⟩ _ ha1 hpa (by omega) (by show j + 1 + t.size ≤ 1000; omega) (((hw.alloc (.cells #[.bool false, .int .i64 ((j : Int) + 1), .bool (en 0), .bool (en 1), .bool (en 2), .bool (en 3), .bool (en 4), .bool (en 5), .bool (en 6), .bool (en 7), .bool (en 8), .bool (en 9), .bool r] 49)).alloc (.cells #[.bool false, .int .i64 0, .bool false, .bool false, .bool false, .bool false, .bool false, .bool false, .bool false, .bool false, .bool false, .bool false, .bool false] 49)).alloc (.cells #[.int .i64 7, .int .u64 0, .int .u64 0, .int .u64 0, .int .u64 0, .int .i64 pa, .int .i64 0, .int .i64 0, .int .i64 0, .int .i64 4] 45))
    have hS0 : ThS w b o0 xs ⟨7, 0, 0, 0, 0, pa, 0, 0, 0, 4⟩ ⟨false, j + 1, en, r⟩ (((w.alloc (.cells #[.bool false, .int .i64 ((j : Int) + 1), .bool (en 0), .bool (en 1), .bool (en 2), .bool (en 3), .bool (en 4), .bool (en 5), .bool (en 6), .bool (en 7), .bool (en 8), .bool (en 9), .bool r] 49)).alloc (.cells #[.bool false, .int .i64 0, .bool false, .bool false, .bool false, .bool false, .bool false, .bool false, .bool false, .bool false, .bool false, .bool false, .bool false] 49)).alloc (.cells #[.int .i64 7, .int .u64 0, .int .u64 0, .int .u64 0, .int .u64 0, .int .i64 pa, .int .i64 0, .int .i64 0, .int .i64 0, .int .i64 4] 45)) := ThS.new hw ⟨7, 0, 0, 0, 0, pa, 0, 0, 0, 4⟩ ⟨false, j + 1, en, r⟩ #[.bool false, .int .i64 0, .bool false, .bool false, .bool false, .bool false, .bool false, .bool false, .bool false, .bool false, .bool false, .bool false, .bool false] rfl
    generalize thr (decide (n = 1)) t ⟨false, j + 1, en, r⟩ = U at *
    have hus : U.cells.size = 13 := rfl
    have hua : U.cells.all (·.oneCell') = true := Wk.cells_all _
    have hcn : U.cells[6]? = some (.bool (U.en 4)) := rfl
    have hc2 : (Wk.mk U.g U.k (fun i => if i = 4 then true else U.en i) U.r).cells = U.cells.setIfInBounds 6 (.bool true) := rfl
    rw [hc2]
    have hua2 : (U.cells.setIfInBounds 6 (.bool true)).all (·.oneCell') = true := by rw [← hc2]; exact Wk.cells_all _
    have hus2 : (U.cells.setIfInBounds 6 (.bool true)).size = 13 := by rw [← hc2]; rfl
    generalize U.en 4 = eN at *
    generalize U.cells = C at *
    have IA1 := Lib.hid IA
    clear IA hc2
    simp only [Wk.cells, Int.natCast_add, Int.natCast_one] at IA1
    simp only [Wk.cells]
    go_enter Tryz.func44, Tryz.ntmps44
    go_wp2_with fail
    refine IA1.out.mono ?_
    rintro e W1 ⟨rfl, hB1⟩
    have hS1 := hS0.step hB1
    obtain ⟨v1, hv1, hz1⟩ := hS1.rb
    have hst := hS1.wb.storeC rfl C hus hua
    have hp5 := hS1.wb.put C
    have nb5 : (W1.setRow w.heap.size C).heap[w.heap.size + 2]? = _ := (heap_setRow C (by omega)).trans hS1.nb
    have rb5 : WB (W1.setRow w.heap.size C) (w.heap.size + 1) v1 := ⟨(heap_setRow C (by omega)).trans hv1.heap⟩
    have z9 : (W1.setRow w.heap.size C).cell? ⟨w.heap.size + 1 + 1, 9, none⟩ = some (.int .i64 4) := (cell_of _ _ _ _ nb5 9).trans rfl
    have z5 : (W1.setRow w.heap.size C).cell? ⟨w.heap.size, 6, none⟩ = some (.bool eN) := (hp5.cell 6).trans hcn
    have zf : (W1.setRow w.heap.size C).frozen? ⟨w.heap.size, 6, none⟩ = false := hp5.fz 6
    have hb5 : Below w.heap.size w (W1.setRow w.heap.size C) := Below.setRow hS1.b (Nat.le_refl _) _
    have h6 : ((W1.setRow w.heap.size C).setCell ⟨w.heap.size, 6, none⟩ (.bool true)).heap[w.heap.size]? = some (.cells (C.setIfInBounds 6 (.bool true)) 49 (0, 0)) := heap_setCell_same _ _ _ _ _ _ hp5.heap
    have wb6 : WB ((W1.setRow w.heap.size C).setCell ⟨w.heap.size, 6, none⟩ (.bool true)) w.heap.size (C.setIfInBounds 6 (.bool true)) := ⟨h6⟩
    have rb6 : WB ((W1.setRow w.heap.size C).setCell ⟨w.heap.size, 6, none⟩ (.bool true)) (w.heap.size + 1) v1 := ⟨(Below.heap_setCell _ _ _ _ (by show w.heap.size + 1 ≠ w.heap.size; omega)).trans rb5.heap⟩
    have hb6 : Below w.heap.size w ((W1.setRow w.heap.size C).setCell ⟨w.heap.size, 6, none⟩ (.bool true)) := hb5.setCell (Nat.le_refl _) _
    generalize hC2 : C.setIfInBounds 6 (.bool true) = C2 at *
    have ql6 := wb6.load hus2
    have hst6 := rb6.storeC hz1 C2 hus2 hua2
    have hput6 := rb6.put C2
    have hbp := Below.setRow hb6 (b := w.heap.size + 1) (by omega) C2
    have HC2 := Lib.hid hC2
    clear hC2 h6 hp5 nb5 rb5 rb6 hb5 hb6 hcn
    go_wp2_with (refine wpList_load_wb wb6 hus2 rfl rfl rfl ?_)
    have ql := hput6.load hus2
    refine bodyPost_ret (v := .agg C2) (by simp [results, Tryz.results44, asAddr, Result.andThen, ql]) rfl ⟨by rw [HC2.out], hbp⟩

set_option maxRecDepth 100000 in
set_option maxHeartbeats 8000000 in
theorem thru_group5 (b o0 n cap : Nat) (xs : List Nd) (hlen : xs.length = n) (hn : n ≤ 120) (t : T) (ih : Thru b o0 n cap xs t) : Thru b o0 n cap xs (T.group 5 t) := by
  rintro o k ⟨g, j, en, r⟩ w ha he hk hj hw
  have hr := ha.root
  rw [show o + (T.group 5 t).size - 1 = k by omega] at hr
  have lb := hw.lt
  have hk1 : (k : Int) < n := by omega
  have ha1 := ha.1
  have sa := t.size_pos
  simp only [T.size] at he hj
  simp only [T.root] at hr
  obtain ⟨pa, hpa⟩ : ∃ pa : Nat, o + t.size = pa + 1 := ⟨o + t.size - 1, by omega⟩
  rw [show (o : Int) + t.size - 1 = (pa : Int) by omega] at hr
  have hcell := hw.cell k _ hr
  have d0 : w.cell? ⟨b, o0 + k * 10, none⟩ = some (.int .i64 7) := hcell 0 _ rfl
  have d1 : w.cell? ⟨b, o0 + k * 10 + 1, none⟩ = some (.int .u64 0) := hcell 1 _ rfl
  have d2 : w.cell? ⟨b, o0 + k * 10 + 2, none⟩ = some (.int .u64 0) := hcell 2 _ rfl
  have d3 : w.cell? ⟨b, o0 + k * 10 + 3, none⟩ = some (.int .u64 0) := hcell 3 _ rfl
  have d4 : w.cell? ⟨b, o0 + k * 10 + 4, none⟩ = some (.int .u64 0) := hcell 4 _ rfl
  have d5 : w.cell? ⟨b, o0 + k * 10 + 5, none⟩ = some (.int .i64 pa) := hcell 5 _ rfl
  have d6 : w.cell? ⟨b, o0 + k * 10 + 6, none⟩ = some (.int .i64 0) := hcell 6 _ rfl
  have d7 : w.cell? ⟨b, o0 + k * 10 + 7, none⟩ = some (.int .i64 0) := hcell 7 _ rfl
  have d8 : w.cell? ⟨b, o0 + k * 10 + 8, none⟩ = some (.int .i64 0) := hcell 8 _ rfl
  have d9 : w.cell? ⟨b, o0 + k * 10 + 9, none⟩ = some (.int .i64 5) := hcell 9 _ rfl
  have hpn : (pa : Int) < n := by omega
  have hwj : IntKind.i64.wrap ((j : Int) + 1) = (j : Int) + 1 := by simp [IntKind.wrap, IntKind.signed, IntKind.bits]; omega
  have et : thr (decide (n = 1)) (T.group 5 t) ⟨g, j, en, r⟩ = ⟨(thr (decide (n = 1)) t ⟨g && decide ((j : Int) + 1 = 5), j + 1, en, r⟩).g, (thr (decide (n = 1)) t ⟨g && decide ((j : Int) + 1 = 5), j + 1, en, r⟩).k, fun i => if i = 5 then true else (thr (decide (n = 1)) t ⟨g && decide ((j : Int) + 1 = 5), j + 1, en, r⟩).en i, (thr (decide (n = 1)) t ⟨g && decide ((j : Int) + 1 = 5), j + 1, en, r⟩).r⟩ := rfl
  rw [et]
  clear hcell et hr
  by_cases hj1 : (j : Int) + 1 = 5
  · rw [decide_eq_true hj1, Bool.and_true]
    have fj : ((j : Int) + 1 == 5) = true := by simp [hj1]
    have fj2 : ((j : Int) + 1 != 5) = false := by simp [hj1]
    clear hj1
    have IA := ih o pa ⟨g, j + 1, en, r⟩ _ ha1 hpa (by omega) (by show j + 1 + t.size ≤ 1000; omega) (((hw.alloc (.cells #[.bool g, .int .i64 ((j : Int) + 1), .bool (en 0), .bool (en 1), .bool (en 2), .bool (en 3), .bool (en 4), .bool (en 5), .bool (en 6), .bool (en 7), .bool (en 8), .bool (en 9), .bool r] 49)).alloc (.cells #[.bool false, .int .i64 0, .bool false, .bool false, .bool false, .bool false, .bool false, .bool false, .bool false, .bool false, .bool false, .bool false, .bool false] 49)).alloc (.cells #[.int .i64 7, .int .u64 0, .int .u64 0, .int .u64 0, .int .u64 0, .int .i64 pa, .int .i64 0, .int .i64 0, .int .i64 0, .int .i64 5] 45))
    have hS0 : ThS w b o0 xs ⟨7, 0, 0, 0, 0, pa, 0, 0, 0, 5⟩ ⟨g, j + 1, en, r⟩ (((w.alloc (.cells #[.bool g, .int .i64 ((j : Int) + 1), .bool (en 0), .bool (en 1), .bool (en 2), .bool (en 3), .bool (en 4), .bool (en 5), .bool (en 6), .bool (en 7), .bool (en 8), .bool (en 9), .bool r] 49)).alloc (.cells #[.bool false, .int .i64 0, .bool false, .bool false, .bool false, .bool false, .bool false, .bool false, .bool false, .bool false, .bool false, .bool false, .bool false] 49)).alloc (.cells #[.int .i64 7, .int .u64 0, .int .u64 0, .int .u64 0, .int .u64 0, .int .i64 pa, .int .i64 0, .int .i64 0, .int .i64 0, .int .i64 5] 45)) := ThS.new hw ⟨7, 0, 0, 0, 0, pa, 0, 0, 0, 5⟩ ⟨g, j + 1, en, r⟩ #[.bool false, .int .i64 0, .bool false, .bool false, .bool false, .bool false, .bool false, .bool false, .bool false, .bool false, .bool false, .bool false, .bool false] rfl
    generalize thr (decide (n = 1)) t ⟨g, j + 1, en, r⟩ = U at *
    have hus : U.cells.size = 13 := rfl
    have hua : U.cells.all (·.oneCell') = true := Wk.cells_all _
    have hcn : U.cells[7]? = some (.bool (U.en 5)) := rfl
    have hc2 : (Wk.mk U.g U.k (fun i => if i = 5 then true else U.en i) U.r).cells = U.cells.setIfInBounds 7 (.bool true) := rfl
    rw [hc2]
    have hua2 : (U.cells.setIfInBounds 7 (.bool true)).all (·.oneCell') = true := by rw [← hc2]; exact Wk.cells_all _
    have hus2 : (U.cells.setIfInBounds 7 (.bool true)).size = 13 := by rw [← hc2]; rfl
    generalize U.en 5 = eN at *
    generalize U.cells = C at *
    have IA1 := Lib.hid IA
    clear IA hc2
    simp only [Wk.cells, Int.natCast_add, Int.natCast_one] at IA1
    simp only [Wk.cells]
    go_enter Tryz.func44, Tryz.ntmps44
    go_wp2_with fail
    refine IA1.out.mono ?_
    rintro e W1 ⟨rfl, hB1⟩
    have hS1 := hS0.step hB1
    obtain ⟨v1, hv1, hz1⟩ := hS1.rb
    have hst := hS1.wb.storeC rfl C hus hua
    have hp5 := hS1.wb.put C
    have nb5 : (W1.setRow w.heap.size C).heap[w.heap.size + 2]? = _ := (heap_setRow C (by omega)).trans hS1.nb
    have rb5 : WB (W1.setRow w.heap.size C) (w.heap.size + 1) v1 := ⟨(heap_setRow C (by omega)).trans hv1.heap⟩
    have z9 : (W1.setRow w.heap.size C).cell? ⟨w.heap.size + 1 + 1, 9, none⟩ = some (.int .i64 5) := (cell_of _ _ _ _ nb5 9).trans rfl
    have z5 : (W1.setRow w.heap.size C).cell? ⟨w.heap.size, 7, none⟩ = some (.bool eN) := (hp5.cell 7).trans hcn
    have zf : (W1.setRow w.heap.size C).frozen? ⟨w.heap.size, 7, none⟩ = false := hp5.fz 7
    have hb5 : Below w.heap.size w (W1.setRow w.heap.size C) := Below.setRow hS1.b (Nat.le_refl _) _
    have h6 : ((W1.setRow w.heap.size C).setCell ⟨w.heap.size, 7, none⟩ (.bool true)).heap[w.heap.size]? = some (.cells (C.setIfInBounds 7 (.bool true)) 49 (0, 0)) := heap_setCell_same _ _ _ _ _ _ hp5.heap
    have wb6 : WB ((W1.setRow w.heap.size C).setCell ⟨w.heap.size, 7, none⟩ (.bool true)) w.heap.size (C.setIfInBounds 7 (.bool true)) := ⟨h6⟩
    have rb6 : WB ((W1.setRow w.heap.size C).setCell ⟨w.heap.size, 7, none⟩ (.bool true)) (w.heap.size + 1) v1 := ⟨(Below.heap_setCell _ _ _ _ (by show w.heap.size + 1 ≠ w.heap.size; omega)).trans rb5.heap⟩
    have hb6 : Below w.heap.size w ((W1.setRow w.heap.size C).setCell ⟨w.heap.size, 7, none⟩ (.bool true)) := hb5.setCell (Nat.le_refl _) _
    generalize hC2 : C.setIfInBounds 7 (.bool true) = C2 at *
    have ql6 := wb6.load hus2
    have hst6 := rb6.storeC hz1 C2 hus2 hua2
    have hput6 := rb6.put C2
    have hbp := Below.setRow hb6 (b := w.heap.size + 1) (by omega) C2
    have HC2 := Lib.hid hC2
    clear hC2 h6 hp5 nb5 rb5 rb6 hb5 hb6 hcn
    go_wp2_with (refine wpList_load_wb wb6 hus2 rfl rfl rfl ?_)
    have ql := hput6.load hus2
    refine bodyPost_ret (v := .agg C2) (by simp [results, Tryz.results44, asAddr, Result.andThen, ql]) rfl ⟨by rw [HC2.out], hbp⟩
  · rw [decide_eq_false hj1, Bool.and_false]
    have fj : ((j : Int) + 1 == 5) = false := by rw [beq_eq_false_iff_ne]; exact hj1
    have fj2 : ((j : Int) + 1 != 5) = true := by simp [hj1]
    clear hj1
    have IA := ih o pa ⟨false, j + 1, en, r⟩ _ ha1 hpa (by omega) (by show j + 1 + t.size ≤ 1000; omega) (((hw.alloc (.cells #[.bool false, .int .i64 ((j : Int) + 1), .bool (en 0), .bool (en 1), .bool (en 2), .bool (en 3), .bool (en 4), .bool (en 5), .bool (en 6), .bool (en 7), .bool (en 8), .bool (en 9), .bool r] 49)).alloc (.cells #[.bool false, .int .i64 0, .bool false, .bool false, .bool false, .bool false, .bool false, .bool false, .bool false, .bool false, .bool false, .bool false, .bool false] 49)).alloc (.cells #[.int .i64 7, .int .u64 0, .int .u64 0, .int .u64 0, .int .u64 0, .int .i64 pa, .int .i64 0, .int .i64 0, .int .i64 0, .int .i64 5] 45))
    have hS0 : ThS w b o0 xs ⟨7, 0, 0, 0, 0, pa, 0, 0, 0, 5⟩ ⟨false, j + 1, en, r⟩ (((w.alloc (.cells #[.bool false, .int .i64 ((j : Int) + 1), .bool (en 0), .bool (en 1), .bool (en 2), .bool (en 3), .bool (en 4), .bool (en 5), .bool (en 6), .bool (en 7), .bool (en 8), .bool (en 9), .bool r] 49)).alloc (.cells #[.bool false, .int .i64 0, .bool false, .bool false, .bool false, .bool false, .bool false, .bool false, .bool false, .bool false, .bool false, .bool false, .bool false] 49)).alloc (.cells #[.int .i64 7, .int .u64 0, .int .u64 0, .int .u64 0, .int .u64 0, .int .i64 pa, .int .i64 0, .int .i64 0, .int .i64 0, .int .i64 5] 45)) := ThS.new hw ⟨7, 0, 0, 0, 0, pa, 0, 0, 0, 5⟩ ⟨false, j + 1, en, r⟩ #[.bool false, .int .i64 0, .bool false, .bool false, .bool false, .bool false, .bool false, .bool false, .bool false, .bool false, .bool false, .bool false, .bool false] rfl
    generalize thr (decide (n = 1)) t ⟨false, j + 1, en, r⟩ = U at *
    have hus : U.cells.size = 13 := rfl
    have hua : U.cells.all (·.oneCell') = true := Wk.cells_all _
    have hcn : U.cells[7]? = some (.bool (U.en 5)) := rfl
    have hc2 : (Wk.mk U.g U.k (fun i => if i = 5 then true else U.en i) U.r).cells = U.cells.setIfInBounds 7 (.bool true) := rfl
    rw [hc2]
    have hua2 : (U.cells.setIfInBounds 7 (.bool true)).all (·.oneCell') = true := by rw [← hc2]; exact Wk.cells_all _
    have hus2 : (U.cells.setIfInBounds 7 (.bool true)).size = 13 := by rw [← hc2]; rfl
    generalize U.en 5 = eN at *
    generalize U.cells = C at *
    have IA1 := Lib.hid IA
    clear IA hc2
    simp only [Wk.cells, Int.natCast_add, Int.natCast_one] at IA1
    simp only [Wk.cells]
    go_enter Tryz.func44, Tryz.ntmps44
    go_wp2_with fail
    refine IA1.out.mono ?_
    rintro e W1 ⟨rfl, hB1⟩
    have hS1 := hS0.step hB1
    obtain ⟨v1, hv1, hz1⟩ := hS1.rb
    have hst := hS1.wb.storeC rfl C hus hua
    have hp5 := hS1.wb.put C
    have nb5 : (W1.setRow w.heap.size C).heap[w.heap.size + 2]? = _ := (heap_setRow C (by omega)).trans hS1.nb
    have rb5 : WB (W1.setRow w.heap.size C) (w.heap.size + 1) v1 := ⟨(heap_setRow C (by omega)).trans hv1.heap⟩
    have z9 : (W1.setRow w.heap.size C).cell? ⟨w.heap.size + 1 + 1, 9, none⟩ = some (.int .i64 5) := (cell_of _ _ _ _ nb5 9).trans rfl
    have z5 : (W1.setRow w.heap.size C).cell? ⟨w.heap.size, 7, none⟩ = some (.bool eN) := (hp5.cell 7).trans hcn
    have zf : (W1.setRow w.heap.size C).frozen? ⟨w.heap.size, 7, none⟩ = false := hp5.fz 7
    have hb5 : Below w.heap.size w (W1.setRow w.heap.size C) := Below.setRow hS1.b (Nat.le_refl _) _
    have h6 : ((W1.setRow w.heap.size C).setCell ⟨w.heap.size, 7, none⟩ (.bool true)).heap[w.heap.size]? = some (.cells (C.setIfInBounds 7 (.bool true)) 49 (0, 0)) := heap_setCell_same _ _ _ _ _ _ hp5.heap
    have wb6 : WB ((W1.setRow w.heap.size C).setCell ⟨w.heap.size, 7, none⟩ (.bool true)) w.heap.size (C.setIfInBounds 7 (.bool true)) := ⟨h6⟩
    have rb6 : WB ((W1.setRow w.heap.size C).setCell ⟨w.heap.size, 7, none⟩ (.bool true)) (w.heap.size + 1) v1 := ⟨(Below.heap_setCell _ _ _ _ (by show w.heap.size + 1 ≠ w.heap.size; omega)).trans rb5.heap⟩
    have hb6 : Below w.heap.size w ((W1.setRow w.heap.size C).setCell ⟨w.heap.size, 7, none⟩ (.bool true)) := hb5.setCell (Nat.le_refl _) _
    generalize hC2 : C.setIfInBounds 7 (.bool true) = C2 at *
    have ql6 := wb6.load hus2
    have hst6 := rb6.storeC hz1 C2 hus2 hua2
    have hput6 := rb6.put C2
    have hbp := Below.setRow hb6 (b := w.heap.size + 1) (by omega) C2
    have HC2 := Lib.hid hC2
    clear hC2 h6 hp5 nb5 rb5 rb6 hb5 hb6 hcn
    go_wp2_with (refine wpList_load_wb wb6 hus2 rfl rfl rfl ?_)
    have ql := hput6.load hus2
    refine bodyPost_ret (v := .agg C2) (by simp [results, Tryz.results44, asAddr, Result.andThen, ql]) rfl ⟨by rw [HC2.out], hbp⟩

set_option maxRecDepth 100000 in
set_option maxHeartbeats 8000000 in
theorem thru_group6 (b o0 n cap : Nat) (xs : List Nd) (hlen : xs.length = n) (hn : n ≤ 120) (t : T) (ih : Thru b o0 n cap xs t) : Thru b o0 n cap xs (T.group 6 t) := by
  rintro o k ⟨g, j, en, r⟩ w ha he hk hj hw
  have hr := ha.root
  rw [show o + (T.group 6 t).size - 1 = k by omega] at hr
  have lb := hw.lt
  have hk1 : (k : Int) < n := by omega
  have ha1 := ha.1
  have sa := t.size_pos
  simp only [T.size] at he hj
  simp only [T.root] at hr
  obtain ⟨pa, hpa⟩ : ∃ pa : Nat, o + t.size = pa + 1 := ⟨o + t.size - 1, by omega⟩
  rw [show (o : Int) + t.size - 1 = (pa : Int) by omega] at hr
  have hcell := hw.cell k _ hr
  have d0 : w.cell? ⟨b, o0 + k * 10, none⟩ = some (.int .i64 7) := hcell 0 _ rfl
  have d1 : w.cell? ⟨b, o0 + k * 10 + 1, none⟩ = some (.int .u64 0) := hcell 1 _ rfl
  have d2 : w.cell? ⟨b, o0 + k * 10 + 2, none⟩ = some (.int .u64 0) := hcell 2 _ rfl
  have d3 : w.cell? ⟨b, o0 + k * 10 + 3, none⟩ = some (.int .u64 0) := hcell 3 _ rfl
  have d4 : w.cell? ⟨b, o0 + k * 10 + 4, none⟩ = some (.int .u64 0) := hcell 4 _ rfl
  have d5 : w.cell? ⟨b, o0 + k * 10 + 5, none⟩ = some (.int .i64 pa) := hcell 5 _ rfl
  have d6 : w.cell? ⟨b, o0 + k * 10 + 6, none⟩ = some (.int .i64 0) := hcell 6 _ rfl
  have d7 : w.cell? ⟨b, o0 + k * 10 + 7, none⟩ = some (.int .i64 0) := hcell 7 _ rfl
  have d8 : w.cell? ⟨b, o0 + k * 10 + 8, none⟩ = some (.int .i64 0) := hcell 8 _ rfl
  have d9 : w.cell? ⟨b, o0 + k * 10 + 9, none⟩ = some (.int .i64 6) := hcell 9 _ rfl
  have hpn : (pa : Int) < n := by omega
  have hwj : IntKind.i64.wrap ((j : Int) + 1) = (j : Int) + 1 := by simp [IntKind.wrap, IntKind.signed, IntKind.bits]; omega
  have et : thr (decide (n = 1)) (T.group 6 t) ⟨g, j, en, r⟩ = ⟨(thr (decide (n = 1)) t ⟨g && decide ((j : Int) + 1 = 6), j + 1, en, r⟩).g, (thr (decide (n = 1)) t ⟨g && decide ((j : Int) + 1 = 6), j + 1, en, r⟩).k, fun i => if i = 6 then true else (thr (decide (n = 1)) t ⟨g && decide ((j : Int) + 1 = 6), j + 1, en, r⟩).en i, (thr (decide (n = 1)) t ⟨g && decide ((j : Int) + 1 = 6), j + 1, en, r⟩).r⟩ := rfl
  rw [et]
  clear hcell et hr
  by_cases hj1 : (j : Int) + 1 = 6
  · rw [decide_eq_true hj1, Bool.and_true]
    have fj : ((j : Int) + 1 == 6) = true := by simp [hj1]
    have fj2 : ((j : Int) + 1 != 6) = false := by simp [hj1]
    clear hj1
    have IA := ih o pa ⟨g, j + 1, en, r⟩ _ ha1 hpa (by omega) (by show j + 1 + t.size ≤ 1000; omega) (((hw.alloc (.cells #[.bool g, .int .i64 ((j : Int) + 1), .bool (en 0), .bool (en 1), .bool (en 2), .bool (en 3), .bool (en 4), .bool (en 5), .bool (en 6), .bool (en 7), .bool (en 8), .bool (en 9), .bool r] 49)).alloc (.cells #[.bool false, .int .i64 0, .bool false, .bool false, .bool false, .bool false, .bool false, .bool false, .bool false, .bool false, .bool false, .bool false, .bool false] 49)).alloc (.cells #[.int .i64 7, .int .u64 0, .int .u64 0, .int .u64 0, .int .u64 0, .int .i64 pa, .int .i64 0, .int .i64 0, .int .i64 0, .int .i64 6] 45))
    have hS0 : ThS w b o0 xs ⟨7, 0, 0, 0, 0, pa, 0, 0, 0, 6⟩ ⟨g, j + 1, en, r⟩ (((w.alloc (.cells #[.bool g, .int .i64 ((j : Int) + 1), .bool (en 0), .bool (en 1), .bool (en 2), .bool (en 3), .bool (en 4), .bool (en 5), .bool (en 6), .bool (en 7), .bool (en 8), .bool (en 9), .bool r] 49)).alloc (.cells #[.bool false, .int .i64 0, .bool false, .bool false, .bool false, .bool false, .bool false, .bool false, .bool false, .bool false, .bool false, .bool false, .bool false] 49)).alloc (.cells #[.int .i64 7, .int .u64 0, .int .u64 0, .int .u64 0, .int .u64 0, .int .i64 pa, .int .i64 0, .int .i64 0, .int .i64 0, .int .i64 6] 45)) := ThS.new hw ⟨7, 0, 0, 0, 0, pa, 0, 0, 0, 6⟩ ⟨g, j + 1, en, r⟩ #[.bool false, .int .i64 0, .bool false, .bool false, .bool false, .bool false, .bool false, .bool false, .bool false, .bool false, .bool false, .bool false, .bool false] rfl
    generalize thr (decide (n = 1)) t ⟨g, j + 1, en, r⟩ = U at *
    have hus : U.cells.size = 13 := rfl
    have hua : U.cells.all (·.oneCell') = true := Wk.cells_all _
    have hcn : U.cells[8]? = some (.bool (U.en 6)) := rfl
    have hc2 : (Wk.mk U.g U.k (fun i => if i = 6 then true else U.en i) U.r).cells = U.cells.setIfInBounds 8 (.bool true) := rfl
    rw [hc2]
    have hua2 : (U.cells.setIfInBounds 8 (.bool true)).all (·.oneCell') = true := by rw [← hc2]; exact Wk.cells_all _
    have hus2 : (U.cells.setIfInBounds 8 (.bool true)).size = 13 := by rw [← hc2]; rfl
    generalize U.en 6 = eN at *
    generalize U.cells = C at *
    have IA1 := Lib.hid IA
    clear IA hc2
    simp only [Wk.cells, Int.natCast_add, Int.natCast_one] at IA1
    simp only [Wk.cells]
    go_enter Tryz.func44, Tryz.ntmps44
    go_wp2_with fail
    refine IA1.out.mono ?_
    rintro e W1 ⟨rfl, hB1⟩
    have hS1 := hS0.step hB1
    obtain ⟨v1, hv1, hz1⟩ := hS1.rb
    have hst := hS1.wb.storeC rfl C hus hua
    have hp5 := hS1.wb.put C
    have nb5 : (W1.setRow w.heap.size C).heap[w.heap.size + 2]? = _ := (heap_setRow C (by omega)).trans hS1.nb
    have rb5 : WB (W1.setRow w.heap.size C) (w.heap.size + 1) v1 := ⟨(heap_setRow C (by omega)).trans hv1.heap⟩
    have z9 : (W1.setRow w.heap.size C).cell? ⟨w.heap.size + 1 + 1, 9, none⟩ = some (.int .i64 6) := (cell_of _ _ _ _ nb5 9).trans rfl
    have z5 : (W1.setRow w.heap.size C).cell? ⟨w.heap.size, 8, none⟩ = some (.bool eN) := (hp5.cell 8).trans hcn
    have zf : (W1.setRow w.heap.size C).frozen? ⟨w.heap.size, 8, none⟩ = false := hp5.fz 8
    have hb5 : Below w.heap.size w (W1.setRow w.heap.size C) := Below.setRow hS1.b (Nat.le_refl _) _
    have h6 : ((W1.setRow w.heap.size C).setCell ⟨w.heap.size, 8, none⟩ (.bool true)).heap[w.heap.size]? = some (.cells (C.setIfInBounds 8 (.bool true)) 49 (0, 0)) := heap_setCell_same _ _ _ _ _ _ hp5.heap
    have wb6 : WB ((W1.setRow w.heap.size C).setCell ⟨w.heap.size, 8, none⟩ (.bool true)) w.heap.size (C.setIfInBounds 8 (.bool true)) := ⟨h6⟩
    have rb6 : WB ((W1.setRow w.heap.size C).setCell ⟨w.heap.size, 8, none⟩ (.bool true)) (w.heap.size + 1) v1 := ⟨(Below.heap_setCell _ _ _ _ (by show w.heap.size + 1 ≠ w.heap.size; omega)).trans rb5.heap⟩
    have hb6 : Below w.heap.size w ((W1.setRow w.heap.size C).setCell ⟨w.heap.size, 8, none⟩ (.bool true)) := hb5.setCell (Nat.le_refl _) _
    generalize hC2 : C.setIfInBounds 8 (.bool true) = C2 at *
    have ql6 := wb6.load hus2
    have hst6 := rb6.storeC hz1 C2 hus2 hua2
    have hput6 := rb6.put C2
    have hbp := Below.setRow hb6 (b := w.heap.size + 1) (by omega) C2
    have HC2 := Lib.hid hC2
    clear hC2 h6 hp5 nb5 rb5 rb6 hb5 hb6 hcn
    go_wp2_with (refine wpList_load_wb wb6 hus2 rfl rfl rfl ?_)
    have ql := hput6.load hus2
    refine bodyPost_ret (v := .agg C2) (by simp [results, Tryz.results44, asAddr, Result.andThen, ql]) rfl ⟨by rw [HC2.out], hbp⟩
  · rw [decide_eq_false hj1, Bool.and_false]
    have fj : ((j : Int) + 1 == 6) = false := by rw [beq_eq_false_iff_ne]; exact hj1
    have fj2 : ((j : Int) + 1 != 6) = true := by simp [hj1]
    clear hj1
    have IA := ih o pa ⟨false, j + 1, en, r⟩ _ ha1 hpa (by omega) (by show j + 1 + t.size ≤ 1000; omega) (((hw.alloc (.cells #[.bool false, .int .i64 ((j : Int) + 1), .bool (en 0), .bool (en 1), .bool (en 2), .bool (en 3), .bool (en 4), .bool (en 5), .bool (en 6), .bool (en 7), .bool (en 8), .bool (en 9), .bool r] 49)).alloc (.cells #[.bool false, .int .i64 0, .bool false, .bool false, .bool false, .bool false, .bool false, .bool false, .bool false, .bool false, .bool false, .bool false, .bool false] 49)).alloc (.cells #[.int .i64 7, .int .u64 0, .int .u64 0, .int .u64 0, .int .u64 0, .int .i64 pa, .int .i64 0, .int .i64 0, .int .i64 0, .int .i64 6] 45))
    have hS0 : ThS w b o0 xs ⟨7, 0, 0, 0, 0, pa, 0, 0, 0, 6⟩ ⟨false, j + 1, en, r⟩ (((w.alloc (.cells #[.bool false, .int .i64 ((j : Int) + 1), .bool (en 0), .bool (en 1), .bool (en 2), .bool (en 3), .bool (en 4), .bool (en 5), .bool (en 6), .bool (en 7), .bool (en 8), .bool (en 9), .bool r] 49)).alloc (.cells #[.bool false, .int .i64 0, .bool false, .bool false, .bool false, .bool false, .bool false, .bool false, .bool false, .bool false, .bool false, .bool false, .bool false] 49)).alloc (.cells #[.int .i64 7, .int .u64 0, .int .u64 0, .int .u64 0, .int .u64 0, .int .i64 pa, .int .i64 0, .int .i64 0, .int .i64 0, .int .i64 6] 45)) := ThS.new hw ⟨7, 0, 0, 0, 0, pa, 0, 0, 0, 6⟩ ⟨false, j + 1, en, r⟩ #[.bool false, .int .i64 0, .bool false, .bool false, .bool false, .bool false, .bool false, .bool false, .bool false, .bool false, .bool false, .bool false, .bool false] rfl
    generalize thr (decide (n = 1)) t ⟨false, j + 1, en, r⟩ = U at *
    have hus : U.cells.size = 13 := rfl
    have hua : U.cells.all (·.oneCell') = true := Wk.cells_all _
    have hcn : U.cells[8]? = some (.bool (U.en 6)) := rfl
    have hc2 : (Wk.mk U.g U.k (fun i => if i = 6 then true else U.en i) U.r).cells = U.cells.setIfInBounds 8 (.bool true) := rfl
    rw [hc2]
    have hua2 : (U.cells.setIfInBounds 8 (.bool true)).all (·.oneCell') = true := by rw [← hc2]; exact Wk.cells_all _
    have hus2 : (U.cells.setIfInBounds 8 (.bool true)).size = 13 := by rw [← hc2]; rfl
    generalize U.en 6 = eN at *
    generalize U.cells = C at *
    have IA1 := Lib.hid IA
    clear IA hc2
    simp only [Wk.cells, Int.natCast_add, Int.natCast_one] at IA1
    simp only [Wk.cells]
    go_enter Tryz.func44, Tryz.ntmps44
    go_wp2_with fail
    refine IA1.out.mono ?_
    rintro e W1 ⟨rfl, hB1⟩
    have hS1 := hS0.step hB1
    obtain ⟨v1, hv1, hz1⟩ := hS1.rb
    have hst := hS1.wb.storeC rfl C hus hua
    have hp5 := hS1.wb.put C
    have nb5 : (W1.setRow w.heap.size C).heap[w.heap.size + 2]? = _ := (heap_setRow C (by omega)).trans hS1.nb
    have rb5 : WB (W1.setRow w.heap.size C) (w.heap.size + 1) v1 := ⟨(heap_setRow C (by omega)).trans hv1.heap⟩
    have z9 : (W1.setRow w.heap.size C).cell? ⟨w.heap.size + 1 + 1, 9, none⟩ = some (.int .i64 6) := (cell_of _ _ _ _ nb5 9).trans rfl
    have z5 : (W1.setRow w.heap.size C).cell? ⟨w.heap.size, 8, none⟩ = some (.bool eN) := (hp5.cell 8).trans hcn
    have zf : (W1.setRow w.heap.size C).frozen? ⟨w.heap.size, 8, none⟩ = false := hp5.fz 8
    have hb5 : Below w.heap.size w (W1.setRow w.heap.size C) := Below.setRow hS1.b (Nat.le_refl _) _
    have h6 : ((W1.setRow w.heap.size C).setCell ⟨w.heap.size, 8, none⟩ (.bool true)).heap[w.heap.size]? = some (.cells (C.setIfInBounds 8 (.bool true)) 49 (0, 0)) := heap_setCell_same _ _ _ _ _ _ hp5.heap
    have wb6 : WB ((W1.setRow w.heap.size C).setCell ⟨w.heap.size, 8, none⟩ (.bool true)) w.heap.size (C.setIfInBounds 8 (.bool true)) := ⟨h6⟩
    have rb6 : WB ((W1.setRow w.heap.size C).setCell ⟨w.heap.size, 8, none⟩ (.bool true)) (w.heap.size + 1) v1 := ⟨(Below.heap_setCell _ _ _ _ (by show w.heap.size + 1 ≠ w.heap.size; omega)).trans rb5.heap⟩
    have hb6 : Below w.heap.size w ((W1.setRow w.heap.size C).setCell ⟨w.heap.size, 8, none⟩ (.bool true)) := hb5.setCell (Nat.le_refl _) _
    generalize hC2 : C.setIfInBounds 8 (.bool true) = C2 at *
    have ql6 := wb6.load hus2
    have hst6 := rb6.storeC hz1 C2 hus2 hua2
    have hput6 := rb6.put C2
    have hbp := Below.setRow hb6 (b := w.heap.size + 1) (by omega) C2
    have HC2 := Lib.hid hC2
    clear hC2 h6 hp5 nb5 rb5 rb6 hb5 hb6 hcn
    go_wp2_with (refine wpList_load_wb wb6 hus2 rfl rfl rfl ?_)
    have ql := hput6.load hus2
    refine bodyPost_ret (v := .agg C2) (by simp [results, Tryz.results44, asAddr, Result.andThen, ql]) rfl ⟨by rw [HC2.out], hbp⟩

set_option maxRecDepth 100000 in
set_option maxHeartbeats 8000000 in
theorem thru_group7 (b o0 n cap : Nat) (xs : List Nd) (hlen : xs.length = n) (hn : n ≤ 120) (t : T) (ih : Thru b o0 n cap xs t) : Thru b o0 n cap xs (T.group 7 t) := by
  rintro o k ⟨g, j, en, r⟩ w ha he hk hj hw
  have hr := ha.root
  rw [show o + (T.group 7 t).size - 1 = k by omega] at hr
  have lb := hw.lt
  have hk1 : (k : Int) < n := by omega
  have ha1 := ha.1
  have sa := t.size_pos
  simp only [T.size] at he hj
  simp only [T.root] at hr
  obtain ⟨pa, hpa⟩ : ∃ pa : Nat, o + t.size = pa + 1 := ⟨o + t.size - 1, by omega⟩
  rw [show (o : Int) + t.size - 1 = (pa : Int) by omega] at hr
  have hcell := hw.cell k _ hr
  have d0 : w.cell? ⟨b, o0 + k * 10, none⟩ = some (.int .i64 7) := hcell 0 _ rfl
  have d1 : w.cell? ⟨b, o0 + k * 10 + 1, none⟩ = some (.int .u64 0) := hcell 1 _ rfl
  have d2 : w.cell? ⟨b, o0 + k * 10 + 2, none⟩ = some (.int .u64 0) := hcell 2 _ rfl
  have d3 : w.cell? ⟨b, o0 + k * 10 + 3, none⟩ = some (.int .u64 0) := hcell 3 _ rfl
  have d4 : w.cell? ⟨b, o0 + k * 10 + 4, none⟩ = some (.int .u64 0) := hcell 4 _ rfl
  have d5 : w.cell? ⟨b, o0 + k * 10 + 5, none⟩ = some (.int .i64 pa) := hcell 5 _ rfl
  have d6 : w.cell? ⟨b, o0 + k * 10 + 6, none⟩ = some (.int .i64 0) := hcell 6 _ rfl
  have d7 : w.cell? ⟨b, o0 + k * 10 + 7, none⟩ = some (.int .i64 0) := hcell 7 _ rfl
  have d8 : w.cell? ⟨b, o0 + k * 10 + 8, none⟩ = some (.int .i64 0) := hcell 8 _ rfl
  have d9 : w.cell? ⟨b, o0 + k * 10 + 9, none⟩ = some (.int .i64 7) := hcell 9 _ rfl
  have hpn : (pa : Int) < n := by omega
  have hwj : IntKind.i64.wrap ((j : Int) + 1) = (j : Int) + 1 := by simp [IntKind.wrap, IntKind.signed, IntKind.bits]; omega
  have et : thr (decide (n = 1)) (T.group 7 t) ⟨g, j, en, r⟩ = ⟨(thr (decide (n = 1)) t ⟨g && decide ((j : Int) + 1 = 7), j + 1, en, r⟩).g, (thr (decide (n = 1)) t ⟨g && decide ((j : Int) + 1 = 7), j + 1, en, r⟩).k, fun i => if i = 7 then true else (thr (decide (n = 1)) t ⟨g && decide ((j : Int) + 1 = 7), j + 1, en, r⟩).en i, (thr (decide (n = 1)) t ⟨g && decide ((j : Int) + 1 = 7), j + 1, en, r⟩).r⟩ := rfl
  rw [et]
  clear hcell et hr
  by_cases hj1 : (j : Int) + 1 = 7
  · rw [decide_eq_true hj1, Bool.and_true]
    have fj : ((j : Int) + 1 == 7) = true := by simp [hj1]
    have fj2 : ((j : Int) + 1 != 7) = false := by simp [hj1]
    clear hj1
    have IA := ih o pa ⟨g, j + 1, en, r⟩ _ ha1 hpa (by omega) (by show j + 1 + t.size ≤ 1000; omega) (((hw.alloc (.cells #[.bool g, .int .i64 ((j : Int) + 1), .bool (en 0), .bool (en 1), .bool (en 2), .bool (en 3), .bool (en 4), .bool (en 5), .bool (en 6), .bool (en 7), .bool (en 8), .bool (en 9), .bool r] 49)).alloc (.cells #[.bool false, .int .i64 0, .bool false, .bool false, .bool false, .bool false, .bool false, .bool false, .bool false, .bool false, .bool false, .bool false, .bool false] 49)).alloc (.cells #[.int .i64 7, .int .u64 0, .int .u64 0, .int .u64 0, .int .u64 0, .int .i64 pa, .int .i64 0, .int .i64 0, .int .i64 0, .int .i64 7] 45))
    have hS0 : ThS w b o0 xs ⟨7, 0, 0, 0, 0, pa, 0, 0, 0, 7⟩ ⟨g, j + 1, en, r⟩ (((w.alloc (.cells #[.bool g, .int .i64 ((j : Int) + 1), .bool (en 0), .bool (en 1), .bool (en 2), .bool (en 3), .bool (en 4), .bool (en 5), .bool (en 6), .bool (en 7), .bool (en 8), .bool (en 9), .bool r] 49)).alloc (.cells #[.bool false, .int .i64 0, .bool false, .bool false, .bool false, .bool false, .bool false, .bool false, .bool false, .bool false, .bool false, .bool false, .bool false] 49)).alloc (.cells #[.int .i64 7, .int .u64 0, .int .u64 0, .int .u64 0, .int .u64 0, .int .i64 pa, .int .i64 0, .int .i64 0, .int .i64 0, .int .i64 7] 45)) := ThS.new hw ⟨7, 0, 0, 0, 0, pa, 0, 0, 0, 7⟩ ⟨g, j + 1, en, r⟩ #[.bool false, .int .i64 0, .bool false, .bool false, .bool false, .bool false, .bool false, .bool false, .bool false, .bool false, .bool false, .bool false, .bool false] rfl
    generalize thr (decide (n = 1)) t ⟨g, j + 1, en, r⟩ = U at *
    have hus : U.cells.size = 13 := rfl
    have hua : U.cells.all (·.oneCell') = true := Wk.cells_all _
    have hcn : U.cells[9]? = some (.bool (U.en 7)) := rfl
    have hc2 : (Wk.mk U.g U.k (fun i => if i = 7 then true else U.en i) U.r).cells = U.cells.setIfInBounds 9 (.bool true) := rfl
    rw [hc2]
    have hua2 : (U.cells.setIfInBounds 9 (.bool true)).all (·.oneCell') = true := by rw [← hc2]; exact Wk.cells_all _
    have hus2 : (U.cells.setIfInBounds 9 (.bool true)).size = 13 := by rw [← hc2]; rfl
    generalize U.en 7 = eN at *
    generalize U.cells = C at *
    have IA1 := Lib.hid IA
    clear IA hc2
    simp only [Wk.cells, Int.natCast_add, Int.natCast_one] at IA1
    simp only [Wk.cells]
    go_enter Tryz.func44, Tryz.ntmps44
    go_wp2_with fail
    refine IA1.out.mono ?_
    rintro e W1 ⟨rfl, hB1⟩
    have hS1 := hS0.step hB1
    obtain ⟨v1, hv1, hz1⟩ := hS1.rb
    have hst := hS1.wb.storeC rfl C hus hua
    have hp5 := hS1.wb.put C
    have nb5 : (W1.setRow w.heap.size C).heap[w.heap.size + 2]? = _ := (heap_setRow C (by omega)).trans hS1.nb
    have rb5 : WB (W1.setRow w.heap.size C) (w.heap.size + 1) v1 := ⟨(heap_setRow C (by omega)).trans hv1.heap⟩
    have z9 : (W1.setRow w.heap.size C).cell? ⟨w.heap.size + 1 + 1, 9, none⟩ = some (.int .i64 7) := (cell_of _ _ _ _ nb5 9).trans rfl
    have z5 : (W1.setRow w.heap.size C).cell? ⟨w.heap.size, 9, none⟩ = some (.bool eN) := (hp5.cell 9).trans hcn
    have zf : (W1.setRow w.heap.size C).frozen? ⟨w.heap.size, 9, none⟩ = false := hp5.fz 9
    have hb5 : Below w.heap.size w (W1.setRow w.heap.size C) := Below.setRow hS1.b (Nat.le_refl _) _
    have h6 : ((W1.setRow w.heap.size C).setCell ⟨w.heap.size, 9, none⟩ (.bool true)).heap[w.heap.size]? = some (.cells (C.setIfInBounds 9 (.bool true)) 49 (0, 0)) := heap_setCell_same _ _ _ _ _ _ hp5.heap
    have wb6 : WB ((W1.setRow w.heap.size C).setCell ⟨w.heap.size, 9, none⟩ (.bool true)) w.heap.size (C.setIfInBounds 9 (.bool true)) := ⟨h6⟩
    have rb6 : WB ((W1.setRow w.heap.size C).setCell ⟨w.heap.size, 9, none⟩ (.bool true)) (w.heap.size + 1) v1 := ⟨(Below.heap_setCell _ _ _ _ (by show w.heap.size + 1 ≠ w.heap.size; omega)).trans rb5.heap⟩
    have hb6 : Below w.heap.size w ((W1.setRow w.heap.size C).setCell ⟨w.heap.size, 9, none⟩ (.bool true)) := hb5.setCell (Nat.le_refl _) _
    generalize hC2 : C.setIfInBounds 9 (.bool true) = C2 at *
    have ql6 := wb6.load hus2
    have hst6 := rb6.storeC hz1 C2 hus2 hua2
    have hput6 := rb6.put C2
    have hbp := Below.setRow hb6 (b := w.heap.size + 1) (by omega) C2
    have HC2 := Lib.hid hC2
    clear hC2 h6 hp5 nb5 rb5 rb6 hb5 hb6 hcn
    go_wp2_with (refine wpList_load_wb wb6 hus2 rfl rfl rfl ?_)
    have ql := hput6.load hus2
    refine bodyPost_ret (v := .agg C2) (by simp [results, Tryz.results44, asAddr, Result.andThen, ql]) rfl ⟨by rw [HC2.out], hbp⟩
  · rw [decide_eq_false hj1, Bool.and_false]
    have fj : ((j : Int) + 1 == 7) = false := by rw [beq_eq_false_iff_ne]; exact hj1
    have fj2 : ((j : Int) + 1 != 7) = true := by simp [hj1]
    clear hj1
    have IA := ih o pa ⟨false, j + 1, en, r⟩ _ ha1 hpa (by omega) (by show j + 1 + t.size ≤ 1000; omega) (((hw.alloc (.cells #[.bool false, .int .i64 ((j : Int) + 1), .bool (en 0), .bool (en 1), .bool (en 2), .bool (en 3), .bool (en 4), .bool (en 5), .bool (en 6), .bool (en 7), .bool (en 8), .bool (en 9), .bool r] 49)).alloc (.cells #[.bool false, .int .i64 0, .bool false, .bool false, .bool false, .bool false, .bool false, .bool false, .bool false, .bool false, .bool false, .bool false, .bool false] 49)).alloc (.cells #[.int .i64 7, .int .u64 0, .int .u64 0, .int .u64 0, .int .u64 0, .int .i64 pa, .int .i64 0, .int .i64 0, .int .i64 0, .int .i64 7] 45))
    have hS0 : ThS w b o0 xs ⟨7, 0, 0, 0, 0, pa, 0, 0, 0, 7⟩ ⟨false, j + 1, en, r⟩ (((w.alloc (.cells #[.bool false, .int .i64 ((j : Int) + 1), .bool (en 0), .bool (en 1), .bool (en 2), .bool (en 3), .bool (en 4), .bool (en 5), .bool (en 6), .bool (en 7), .bool (en 8), .bool (en 9), .bool r] 49)).alloc (.cells #[.bool false, .int .i64 0, .bool false, .bool false, .bool false, .bool false, .bool false, .bool false, .bool false, .bool false, .bool false, .bool false, .bool false] 49)).alloc (.cells #[.int .i64 7, .int .u64 0, .int .u64 0, .int .u64 0, .int .u64 0, .int .i64 pa, .int .i64 0, .int .i64 0, .int .i64 0, .int .i64 7] 45)) := ThS.new hw ⟨7, 0, 0, 0, 0, pa, 0, 0, 0, 7⟩ ⟨false, j + 1, en, r⟩ #[.bool false, .int .i64 0, .bool false, .bool false, .bool false, .bool false, .bool false, .bool false, .bool false, .bool false, .bool false, .bool false, .bool false] rfl
    generalize thr (decide (n = 1)) t ⟨false, j + 1, en, r⟩ = U at *
    have hus : U.cells.size = 13 := rfl
    have hua : U.cells.all (·.oneCell') = true := Wk.cells_all _
    have hcn : U.cells[9]? = some (.bool (U.en 7)) := rfl
    have hc2 : (Wk.mk U.g U.k (fun i => if i = 7 then true else U.en i) U.r).cells = U.cells.setIfInBounds 9 (.bool true) := rfl
    rw [hc2]
    have hua2 : (U.cells.setIfInBounds 9 (.bool true)).all (·.oneCell') = true := by rw [← hc2]; exact Wk.cells_all _
    have hus2 : (U.cells.setIfInBounds 9 (.bool true)).size = 13 := by rw [← hc2]; rfl
    generalize U.en 7 = eN at *
    generalize U.cells = C at *
    have IA1 := Lib.hid IA
    clear IA hc2
    simp only [Wk.cells, Int.natCast_add, Int.natCast_one] at IA1
    simp only [Wk.cells]
    go_enter Tryz.func44, Tryz.ntmps44
    go_wp2_with fail
    refine IA1.out.mono ?_
    rintro e W1 ⟨rfl, hB1⟩
    have hS1 := hS0.step hB1
    obtain ⟨v1, hv1, hz1⟩ := hS1.rb
    have hst := hS1.wb.storeC rfl C hus hua
    have hp5 := hS1.wb.put C
    have nb5 : (W1.setRow w.heap.size C).heap[w.heap.size + 2]? = _ := (heap_setRow C (by omega)).trans hS1.nb
    have rb5 : WB (W1.setRow w.heap.size C) (w.heap.size + 1) v1 := ⟨(heap_setRow C (by omega)).trans hv1.heap⟩
    have z9 : (W1.setRow w.heap.size C).cell? ⟨w.heap.size + 1 + 1, 9, none⟩ = some (.int .i64 7) := (cell_of _ _ _ _ nb5 9).trans rfl
    have z5 : (W1.setRow w.heap.size C).cell? ⟨w.heap.size, 9, none⟩ = some (.bool eN) := (hp5.cell 9).trans hcn
    have zf : (W1.setRow w.heap.size C).frozen? ⟨w.heap.size, 9, none⟩ = false := hp5.fz 9
    have hb5 : Below w.heap.size w (W1.setRow w.heap.size C) := Below.setRow hS1.b (Nat.le_refl _) _
    have h6 : ((W1.setRow w.heap.size C).setCell ⟨w.heap.size, 9, none⟩ (.bool true)).heap[w.heap.size]? = some (.cells (C.setIfInBounds 9 (.bool true)) 49 (0, 0)) := heap_setCell_same _ _ _ _ _ _ hp5.heap
    have wb6 : WB ((W1.setRow w.heap.size C).setCell ⟨w.heap.size, 9, none⟩ (.bool true)) w.heap.size (C.setIfInBounds 9 (.bool true)) := ⟨h6⟩
    have rb6 : WB ((W1.setRow w.heap.size C).setCell ⟨w.heap.size, 9, none⟩ (.bool true)) (w.heap.size + 1) v1 := ⟨(Below.heap_setCell _ _ _ _ (by show w.heap.size + 1 ≠ w.heap.size; omega)).trans rb5.heap⟩
    have hb6 : Below w.heap.size w ((W1.setRow w.heap.size C).setCell ⟨w.heap.size, 9, none⟩ (.bool true)) := hb5.setCell (Nat.le_refl _) _
    generalize hC2 : C.setIfInBounds 9 (.bool true) = C2 at *
    have ql6 := wb6.load hus2
    have hst6 := rb6.storeC hz1 C2 hus2 hua2
    have hput6 := rb6.put C2
    have hbp := Below.setRow hb6 (b := w.heap.size + 1) (by omega) C2
    have HC2 := Lib.hid hC2
    clear hC2 h6 hp5 nb5 rb5 rb6 hb5 hb6 hcn
    go_wp2_with (refine wpList_load_wb wb6 hus2 rfl rfl rfl ?_)
    have ql := hput6.load hus2
    refine bodyPost_ret (v := .agg C2) (by simp [results, Tryz.results44, asAddr, Result.andThen, ql]) rfl ⟨by rw [HC2.out], hbp⟩

set_option maxRecDepth 100000 in
set_option maxHeartbeats 8000000 in
theorem thru_group8 (b o0 n cap : Nat) (xs : List Nd) (hlen : xs.length = n) (hn : n ≤ 120) (t : T) (ih : Thru b o0 n cap xs t) : Thru b o0 n cap xs (T.group 8 t) := by
  rintro o k ⟨g, j, en, r⟩ w ha he hk hj hw
  have hr := ha.root
  rw [show o + (T.group 8 t).size - 1 = k by omega] at hr
  have lb := hw.lt
  have hk1 : (k : Int) < n := by omega
  have ha1 := ha.1
  have sa := t.size_pos
  simp only [T.size] at he hj
  simp only [T.root] at hr
  obtain ⟨pa, hpa⟩ : ∃ pa : Nat, o + t.size = pa + 1 := ⟨o + t.size - 1, by omega⟩
  rw [show (o : Int) + t.size - 1 = (pa : Int) by omega] at hr
  have hcell := hw.cell k _ hr
  have d0 : w.cell? ⟨b, o0 + k * 10, none⟩ = some (.int .i64 7) := hcell 0 _ rfl
  have d1 : w.cell? ⟨b, o0 + k * 10 + 1, none⟩ = some (.int .u64 0) := hcell 1 _ rfl
  have d2 : w.cell? ⟨b, o0 + k * 10 + 2, none⟩ = some (.int .u64 0) := hcell 2 _ rfl
  have d3 : w.cell? ⟨b, o0 + k * 10 + 3, none⟩ = some (.int .u64 0) := hcell 3 _ rfl
  have d4 : w.cell? ⟨b, o0 + k * 10 + 4, none⟩ = some (.int .u64 0) := hcell 4 _ rfl
  have d5 : w.cell? ⟨b, o0 + k * 10 + 5, none⟩ = some (.int .i64 pa) := hcell 5 _ rfl
  have d6 : w.cell? ⟨b, o0 + k * 10 + 6, none⟩ = some (.int .i64 0) := hcell 6 _ rfl
  have d7 : w.cell? ⟨b, o0 + k * 10 + 7, none⟩ = some (.int .i64 0) := hcell 7 _ rfl
  have d8 : w.cell? ⟨b, o0 + k * 10 + 8, none⟩ = some (.int .i64 0) := hcell 8 _ rfl
  have d9 : w.cell? ⟨b, o0 + k * 10 + 9, none⟩ = some (.int .i64 8) := hcell 9 _ rfl
  have hpn : (pa : Int) < n := by omega
  have hwj : IntKind.i64.wrap ((j : Int) + 1) = (j : Int) + 1 := by simp [IntKind.wrap, IntKind.signed, IntKind.bits]; omega
  have et : thr (decide (n = 1)) (T.group 8 t) ⟨g, j, en, r⟩ = ⟨(thr (decide (n = 1)) t ⟨g && decide ((j : Int) + 1 = 8), j + 1, en, r⟩).g, (thr (decide (n = 1)) t ⟨g && decide ((j : Int) + 1 = 8), j + 1, en, r⟩).k, fun i => if i = 8 then true else (thr (decide (n = 1)) t ⟨g && decide ((j : Int) + 1 = 8), j + 1, en, r⟩).en i, (thr (decide (n = 1)) t ⟨g && decide ((j : Int) + 1 = 8), j + 1, en, r⟩).r⟩ := rfl
  rw [et]
  clear hcell et hr
  by_cases hj1 : (j : Int) + 1 = 8
  · rw [decide_eq_true hj1, Bool.and_true]
    have fj : ((j : Int) + 1 == 8) = true := by simp [hj1]
    have fj2 : ((j : Int) + 1 != 8) = false := by simp [hj1]
    clear hj1
    have IA := ih o pa ⟨g, j + 1, en, r⟩ _ ha1 hpa (by omega) (by show j + 1 + t.size ≤ 1000; omega) (((hw.alloc (.cells #[.bool g, .int .i64 ((j : Int) + 1), .bool (en 0), .bool (en 1), .bool (en 2), .bool (en 3), .bool (en 4), .bool (en 5), .bool (en 6), .bool (en 7), .bool (en 8), .bool (en 9), .bool r] 49)).alloc (.cells #[.bool false, .int .i64 0, .bool false, .bool false, .bool false, .bool false, .bool false, .bool false, .bool false, .bool false, .bool false, .bool false, .bool false] 49)).alloc (.cells #[.int .i64 7, .int .u64 0, .int .u64 0, .int .u64 0, .int .u64 0, .int .i64 pa, .int .i64 0, .int .i64 0, .int .i64 0, .int .i64 8] 45))
    have hS0 : ThS w b o0 xs ⟨7, 0, 0, 0, 0, pa, 0, 0, 0, 8⟩ ⟨g, j + 1, en, r⟩ (((w.alloc (.cells #[.bool g, .int .i64 ((j : Int) + 1), .bool (en 0), .bool (en 1), .bool (en 2), .bool (en 3), .bool (en 4), .bool (en 5), .bool (en 6), .bool (en 7), .bool (en 8), .bool (en 9), .bool r] 49)).alloc (.cells #[.bool false, .int .i64 0, .bool false, .bool false, .bool false, .bool false, .bool false, .bool false, .bool false, .bool false, .bool false, .bool false, .bool false] 49)).alloc (.cells #[.int .i64 7, .int .u64 0, .int .u64 0, .int .u64 0, .int .u64 0, .int .i64 pa, .int .i64 0, .int .i64 0, .int .i64 0, .int .i64 8] 45)) := ThS.new hw ⟨7, 0, 0, 0, 0, pa, 0, 0, 0, 8⟩ ⟨g, j + 1, en, r⟩ #[.bool false, .int .i64 0, .bool false, .bool false, .bool false, .bool false, .bool false, .bool false, .bool false, .bool false, .bool false, .bool false, .bool false] rfl
    generalize thr (decide (n = 1)) t ⟨g, j + 1, en, r⟩ = U at *
    have hus : U.cells.size = 13 := rfl
    have hua : U.cells.all (·.oneCell') = true := Wk.cells_all _
    have hcn : U.cells[10]? = some (.bool (U.en 8)) := rfl
    have hc2 : (Wk.mk U.g U.k (fun i => if i = 8 then true else U.en i) U.r).cells = U.cells.setIfInBounds 10 (.bool true) := rfl
    rw [hc2]
    have hua2 : (U.cells.setIfInBounds 10 (.bool true)).all (·.oneCell') = true := by rw [← hc2]; exact Wk.cells_all _
    have hus2 : (U.cells.setIfInBounds 10 (.bool true)).size = 13 := by rw [← hc2]; rfl
    generalize U.en 8 = eN at *
    generalize U.cells = C at *
    have IA1 := Lib.hid IA
    clear IA hc2
    simp only [Wk.cells, Int.natCast_add, Int.natCast_one] at IA1
    simp only [Wk.cells]
    go_enter Tryz.func44, Tryz.ntmps44
    go_wp2_with fail
    refine IA1.out.mono ?_
    rintro e W1 ⟨rfl, hB1⟩
    have hS1 := hS0.step hB1
    obtain ⟨v1, hv1, hz1⟩ := hS1.rb
    have hst := hS1.wb.storeC rfl C hus hua
    have hp5 := hS1.wb.put C
    have nb5 : (W1.setRow w.heap.size C).heap[w.heap.size + 2]? = _ := (heap_setRow C (by omega)).trans hS1.nb
    have rb5 : WB (W1.setRow w.heap.size C) (w.heap.size + 1) v1 := ⟨(heap_setRow C (by omega)).trans hv1.heap⟩
    have z9 : (W1.setRow w.heap.size C).cell? ⟨w.heap.size + 1 + 1, 9, none⟩ = some (.int .i64 8) := (cell_of _ _ _ _ nb5 9).trans rfl
    have z5 : (W1.setRow w.heap.size C).cell? ⟨w.heap.size, 10, none⟩ = some (.bool eN) := (hp5.cell 10).trans hcn
    have zf : (W1.setRow w.heap.size C).frozen? ⟨w.heap.size, 10, none⟩ = false := hp5.fz 10
    have hb5 : Below w.heap.size w (W1.setRow w.heap.size C) := Below.setRow hS1.b (Nat.le_refl _) _
    have h6 : ((W1.setRow w.heap.size C).setCell ⟨w.heap.size, 10, none⟩ (.bool true)).heap[w.heap.size]? = some (.cells (C.setIfInBounds 10 (.bool true)) 49 (0, 0)) := heap_setCell_same _ _ _ _ _ _ hp5.heap
    have wb6 : WB ((W1.setRow w.heap.size C).setCell ⟨w.heap.size, 10, none⟩ (.bool true)) w.heap.size (C.setIfInBounds 10 (.bool true)) := ⟨h6⟩
    have rb6 : WB ((W1.setRow w.heap.size C).setCell ⟨w.heap.size, 10, none⟩ (.bool true)) (w.heap.size + 1) v1 := ⟨(Below.heap_setCell _ _ _ _ (by show w.heap.size + 1 ≠ w.heap.size; omega)).trans rb5.heap⟩
    have hb6 : Below w.heap.size w ((W1.setRow w.heap.size C).setCell ⟨w.heap.size, 10, none⟩ (.bool true)) := hb5.setCell (Nat.le_refl _) _
    generalize hC2 : C.setIfInBounds 10 (.bool true) = C2 at *
    have ql6 := wb6.load hus2
    have hst6 := rb6.storeC hz1 C2 hus2 hua2
    have hput6 := rb6.put C2
    have hbp := Below.setRow hb6 (b := w.heap.size + 1) (by omega) C2
    have HC2 := Lib.hid hC2
    clear hC2 h6 hp5 nb5 rb5 rb6 hb5 hb6 hcn
    go_wp2_with (refine wpList_load_wb wb6 hus2 rfl rfl rfl ?_)
    have ql := hput6.load hus2
    refine bodyPost_ret (v := .agg C2) (by simp [results, Tryz.results44, asAddr, Result.andThen, ql]) rfl ⟨by rw [HC2.out], hbp⟩
  · rw [decide_eq_false hj1, Bool.and_false]
    have fj : ((j : Int) + 1 == 8) = false := by rw [beq_eq_false_iff_ne]; exact hj1
    have fj2 : ((j : Int) + 1 != 8) = true := by simp [hj1]
    clear hj1
    have IA := ih o pa ⟨false, j + 1, en, r⟩ _ ha1 hpa (by omega) (by show j + 1 + t.size ≤ 1000; omega) (((hw.alloc (.cells #[.bool false, .int .i64 ((j : Int) + 1), .bool (en 0), .bool (en 1), .bool (en 2), .bool (en 3), .bool (en 4), .bool (en 5), .bool (en 6), .bool (en 7), .bool (en 8), .bool (en 9), .bool r] 49)).alloc (.cells #[.bool false, .int .i64 0, .bool false, .bool false, .bool false, .bool false, .bool false, .bool false, .bool false, .bool false, .bool false, .bool false, .bool false] 49)).alloc (.cells #[.int .i64 7, .int .u64 0, .int .u64 0, .int .u64 0, .int .u64 0, .int .i64 pa, .int .i64 0, .int .i64 0, .int .i64 0, .int .i64 8] 45))
    have hS0 : ThS w b o0 xs ⟨7, 0, 0, 0, 0, pa, 0, 0, 0, 8⟩ ⟨false, j + 1, en, r⟩ (((w.alloc (.cells #[.bool false, .int .i64 ((j : Int) + 1), .bool (en 0), .bool (en 1), .bool (en 2), .bool (en 3), .bool (en 4), .bool (en 5), .bool (en 6), .bool (en 7), .bool (en 8), .bool (en 9), .bool r] 49)).alloc (.cells #[.bool false, .int .i64 0, .bool false, .bool false, .bool false, .bool false, .bool false, .bool false, .bool false, .bool false, .bool false, .bool false, .bool false] 49)).alloc (.cells #[.int .i64 7, .int .u64 0, .int .u64 0, .int .u64 0, .int .u64 0, .int .i64 pa, .int .i64 0, .int .i64 0, .int .i64 0, .int .i64 8] 45)) := ThS.new hw ⟨7, 0, 0, 0, 0, pa, 0, 0, 0, 8⟩ ⟨false, j + 1, en, r⟩ #[.bool false, .int .i64 0, .bool false, .bool false, .bool false, .bool false, .bool false, .bool false, .bool false, .bool false, .bool false, .bool false, .bool false] rfl
    generalize thr (decide (n = 1)) t ⟨false, j + 1, en, r⟩ = U at *
    have hus : U.cells.size = 13 := rfl
    have hua : U.cells.all (·.oneCell') = true := Wk.cells_all _
    have hcn : U.cells[10]? = some (.bool (U.en 8)) := rfl
    have hc2 : (Wk.mk U.g U.k (fun i => if i = 8 then true else U.en i) U.r).cells = U.cells.setIfInBounds 10 (.bool true) := rfl
    rw [hc2]
    have hua2 : (U.cells.setIfInBounds 10 (.bool true)).all (·.oneCell') = true := by rw [← hc2]; exact Wk.cells_all _
    have hus2 : (U.cells.setIfInBounds 10 (.bool true)).size = 13 := by rw [← hc2]; rfl
    generalize U.en 8 = eN at *
    generalize U.cells = C at *
    have IA1 := Lib.hid IA
    clear IA hc2
    simp only [Wk.cells, Int.natCast_add, Int.natCast_one] at IA1
    simp only [Wk.cells]
    go_enter Tryz.func44, Tryz.ntmps44
    go_wp2_with fail
    refine IA1.out.mono ?_
    rintro e W1 ⟨rfl, hB1⟩
    have hS1 := hS0.step hB1
    obtain ⟨v1, hv1, hz1⟩ := hS1.rb
    have hst := hS1.wb.storeC rfl C hus hua
    have hp5 := hS1.wb.put C
    have nb5 : (W1.setRow w.heap.size C).heap[w.heap.size + 2]? = _ := (heap_setRow C (by omega)).trans hS1.nb
    have rb5 : WB (W1.setRow w.heap.size C) (w.heap.size + 1) v1 := ⟨(heap_setRow C (by omega)).trans hv1.heap⟩
    have z9 : (W1.setRow w.heap.size C).cell? ⟨w.heap.size + 1 + 1, 9, none⟩ = some (.int .i64 8) := (cell_of _ _ _ _ nb5 9).trans rfl
    have z5 : (W1.setRow w.heap.size C).cell? ⟨w.heap.size, 10, none⟩ = some (.bool eN) := (hp5.cell 10).trans hcn
    have zf : (W1.setRow w.heap.size C).frozen? ⟨w.heap.size, 10, none⟩ = false := hp5.fz 10
    have hb5 : Below w.heap.size w (W1.setRow w.heap.size C) := Below.setRow hS1.b (Nat.le_refl _) _
    have h6 : ((W1.setRow w.heap.size C).setCell ⟨w.heap.size, 10, none⟩ (.bool true)).heap[w.heap.size]? = some (.cells (C.setIfInBounds 10 (.bool true)) 49 (0, 0)) := heap_setCell_same _ _ _ _ _ _ hp5.heap
    have wb6 : WB ((W1.setRow w.heap.size C).setCell ⟨w.heap.size, 10, none⟩ (.bool true)) w.heap.size (C.setIfInBounds 10 (.bool true)) := ⟨h6⟩
    have rb6 : WB ((W1.setRow w.heap.size C).setCell ⟨w.heap.size, 10, none⟩ (.bool true)) (w.heap.size + 1) v1 := ⟨(Below.heap_setCell _ _ _ _ (by show w.heap.size + 1 ≠ w.heap.size; omega)).trans rb5.heap⟩
    have hb6 : Below w.heap.size w ((W1.setRow w.heap.size C).setCell ⟨w.heap.size, 10, none⟩ (.bool true)) := hb5.setCell (Nat.le_refl _) _
    generalize hC2 : C.setIfInBounds 10 (.bool true) = C2 at *
    have ql6 := wb6.load hus2
    have hst6 := rb6.storeC hz1 C2 hus2 hua2
    have hput6 := rb6.put C2
    have hbp := Below.setRow hb6 (b := w.heap.size + 1) (by omega) C2
    have HC2 := Lib.hid hC2
    clear hC2 h6 hp5 nb5 rb5 rb6 hb5 hb6 hcn
    go_wp2_with (refine wpList_load_wb wb6 hus2 rfl rfl rfl ?_)
    have ql := hput6.load hus2
    refine bodyPost_ret (v := .agg C2) (by simp [results, Tryz.results44, asAddr, Result.andThen, ql]) rfl ⟨by rw [HC2.out], hbp⟩

set_option maxRecDepth 100000 in
set_option maxHeartbeats 8000000 in
theorem thru_group9 (b o0 n cap : Nat) (xs : List Nd) (hlen : xs.length = n) (hn : n ≤ 120) (t : T) (ih : Thru b o0 n cap xs t) : Thru b o0 n cap xs (T.group 9 t) := by
  rintro o k ⟨g, j, en, r⟩ w ha he hk hj hw
  have hr := ha.root
  rw [show o + (T.group 9 t).size - 1 = k by omega] at hr
  have lb := hw.lt
  have hk1 : (k : Int) < n := by omega
  have ha1 := ha.1
  have sa := t.size_pos
  simp only [T.size] at he hj
  simp only [T.root] at hr
  obtain ⟨pa, hpa⟩ : ∃ pa : Nat, o + t.size = pa + 1 := ⟨o + t.size - 1, by omega⟩
  rw [show (o : Int) + t.size - 1 = (pa : Int) by omega] at hr
  have hcell := hw.cell k _ hr
  have d0 : w.cell? ⟨b, o0 + k * 10, none⟩ = some (.int .i64 7) := hcell 0 _ rfl
  have d1 : w.cell? ⟨b, o0 + k * 10 + 1, none⟩ = some (.int .u64 0) := hcell 1 _ rfl
  have d2 : w.cell? ⟨b, o0 + k * 10 + 2, none⟩ = some (.int .u64 0) := hcell 2 _ rfl
  have d3 : w.cell? ⟨b, o0 + k * 10 + 3, none⟩ = some (.int .u64 0) := hcell 3 _ rfl
  have d4 : w.cell? ⟨b, o0 + k * 10 + 4, none⟩ = some (.int .u64 0) := hcell 4 _ rfl
  have d5 : w.cell? ⟨b, o0 + k * 10 + 5, none⟩ = some (.int .i64 pa) := hcell 5 _ rfl
  have d6 : w.cell? ⟨b, o0 + k * 10 + 6, none⟩ = some (.int .i64 0) := hcell 6 _ rfl
  have d7 : w.cell? ⟨b, o0 + k * 10 + 7, none⟩ = some (.int .i64 0) := hcell 7 _ rfl
  have d8 : w.cell? ⟨b, o0 + k * 10 + 8, none⟩ = some (.int .i64 0) := hcell 8 _ rfl
  have d9 : w.cell? ⟨b, o0 + k * 10 + 9, none⟩ = some (.int .i64 9) := hcell 9 _ rfl
  have hpn : (pa : Int) < n := by omega
  have hwj : IntKind.i64.wrap ((j : Int) + 1) = (j : Int) + 1 := by simp [IntKind.wrap, IntKind.signed, IntKind.bits]; omega
  have et : thr (decide (n = 1)) (T.group 9 t) ⟨g, j, en, r⟩ = ⟨(thr (decide (n = 1)) t ⟨g && decide ((j : Int) + 1 = 9), j + 1, en, r⟩).g, (thr (decide (n = 1)) t ⟨g && decide ((j : Int) + 1 = 9), j + 1, en, r⟩).k, fun i => if i = 9 then true else (thr (decide (n = 1)) t ⟨g && decide ((j : Int) + 1 = 9), j + 1, en, r⟩).en i, (thr (decide (n = 1)) t ⟨g && decide ((j : Int) + 1 = 9), j + 1, en, r⟩).r⟩ := rfl
  rw [et]
  clear hcell et hr
  by_cases hj1 : (j : Int) + 1 = 9
  · rw [decide_eq_true hj1, Bool.and_true]
    have fj : ((j : Int) + 1 == 9) = true := by simp [hj1]
    have fj2 : ((j : Int) + 1 != 9) = false := by simp [hj1]
    clear hj1
    have IA := ih o pa ⟨g, j + 1, en, r⟩ _ ha1 hpa (by omega) (by show j + 1 + t.size ≤ 1000; omega) (((hw.alloc (.cells #[.bool g, .int .i64 ((j : Int) + 1), .bool (en 0), .bool (en 1), .bool (en 2), .bool (en 3), .bool (en 4), .bool (en 5), .bool (en 6), .bool (en 7), .bool (en 8), .bool (en 9), .bool r] 49)).alloc (.cells #[.bool false, .int .i64 0, .bool false, .bool false, .bool false, .bool false, .bool false, .bool false, .bool false, .bool false, .bool false, .bool false, .bool false] 49)).alloc (.cells #[.int .i64 7, .int .u64 0, .int .u64 0, .int .u64 0, .int .u64 0, .int .i64 pa, .int .i64 0, .int .i64 0, .int .i64 0, .int .i64 9] 45))
    have hS0 : ThS w b o0 xs ⟨7, 0, 0, 0, 0, pa, 0, 0, 0, 9⟩ ⟨g, j + 1, en, r⟩ (((w.alloc (.cells #[.bool g, .int .i64 ((j : Int) + 1), .bool (en 0), .bool (en 1), .bool (en 2), .bool (en 3), .bool (en 4), .bool (en 5), .bool (en 6), .bool (en 7), .bool (en 8), .bool (en 9), .bool r] 49)).alloc (.cells #[.bool false, .int .i64 0, .bool false, .bool false, .bool false, .bool false, .bool false, .bool false, .bool false, .bool false, .bool false, .bool false, .bool false] 49)).alloc (.cells #[.int .i64 7, .int .u64 0, .int .u64 0, .int .u64 0, .int .u64 0, .int .i64 pa, .int .i64 0, .int .i64 0, .int .i64 0, .int .i64 9] 45)) := ThS.new hw ⟨7, 0, 0, 0, 0, pa, 0, 0, 0, 9⟩ ⟨g, j + 1, en, r⟩ #[.bool false, .int .i64 0, .bool false, .bool false, .bool false, .bool false, .bool false, .bool false, .bool false, .bool false, .bool false, .bool false, .bool false] rfl
    generalize thr (decide (n = 1)) t ⟨g, j + 1, en, r⟩ = U at *
    have hus : U.cells.size = 13 := rfl
    have hua : U.cells.all (·.oneCell') = true := Wk.cells_all _
    have hcn : U.cells[11]? = some (.bool (U.en 9)) := rfl
    have hc2 : (Wk.mk U.g U.k (fun i => if i = 9 then true else U.en i) U.r).cells = U.cells.setIfInBounds 11 (.bool true) := rfl
    rw [hc2]
    have hua2 : (U.cells.setIfInBounds 11 (.bool true)).all (·.oneCell') = true := by rw [← hc2]; exact Wk.cells_all _
    have hus2 : (U.cells.setIfInBounds 11 (.bool true)).size = 13 := by rw [← hc2]; rfl
    generalize U.en 9 = eN at *
    generalize U.cells = C at *
    have IA1 := Lib.hid IA
    clear IA hc2
    simp only [Wk.cells, Int.natCast_add, Int.natCast_one] at IA1
    simp only [Wk.cells]
    go_enter Tryz.func44, Tryz.ntmps44
    go_wp2_with fail
    refine IA1.out.mono ?_
    rintro e W1 ⟨rfl, hB1⟩
    have hS1 := hS0.step hB1
    obtain ⟨v1, hv1, hz1⟩ := hS1.rb
    have hst := hS1.wb.storeC rfl C hus hua
    have hp5 := hS1.wb.put C
    have nb5 : (W1.setRow w.heap.size C).heap[w.heap.size + 2]? = _ := (heap_setRow C (by omega)).trans hS1.nb
    have rb5 : WB (W1.setRow w.heap.size C) (w.heap.size + 1) v1 := ⟨(heap_setRow C (by omega)).trans hv1.heap⟩
    have z9 : (W1.setRow w.heap.size C).cell? ⟨w.heap.size + 1 + 1, 9, none⟩ = some (.int .i64 9) := (cell_of _ _ _ _ nb5 9).trans rfl
    have z5 : (W1.setRow w.heap.size C).cell? ⟨w.heap.size, 11, none⟩ = some (.bool eN) := (hp5.cell 11).trans hcn
    have zf : (W1.setRow w.heap.size C).frozen? ⟨w.heap.size, 11, none⟩ = false := hp5.fz 11
    have hb5 : Below w.heap.size w (W1.setRow w.heap.size C) := Below.setRow hS1.b (Nat.le_refl _) _
    have h6 : ((W1.setRow w.heap.size C).setCell ⟨w.heap.size, 11, none⟩ (.bool true)).heap[w.heap.size]? = some (.cells (C.setIfInBounds 11 (.bool true)) 49 (0, 0)) := heap_setCell_same _ _ _ _ _ _ hp5.heap
    have wb6 : WB ((W1.setRow w.heap.size C).setCell ⟨w.heap.size, 11, none⟩ (.bool true)) w.heap.size (C.setIfInBounds 11 (.bool true)) := ⟨h6⟩
    have rb6 : WB ((W1.setRow w.heap.size C).setCell ⟨w.heap.size, 11, none⟩ (.bool true)) (w.heap.size + 1) v1 := ⟨(Below.heap_setCell _ _ _ _ (by show w.heap.size + 1 ≠ w.heap.size; omega)).trans rb5.heap⟩
    have hb6 : Below w.heap.size w ((W1.setRow w.heap.size C).setCell ⟨w.heap.size, 11, none⟩ (.bool true)) := hb5.setCell (Nat.le_refl _) _
    generalize hC2 : C.setIfInBounds 11 (.bool true) = C2 at *
    have ql6 := wb6.load hus2
    have hst6 := rb6.storeC hz1 C2 hus2 hua2
    have hput6 := rb6.put C2
    have hbp := Below.setRow hb6 (b := w.heap.size + 1) (by omega) C2
    have HC2 := Lib.hid hC2
    clear hC2 h6 hp5 nb5 rb5 rb6 hb5 hb6 hcn
    go_wp2_with (refine wpList_load_wb wb6 hus2 rfl rfl rfl ?_)
    have ql := hput6.load hus2
    refine bodyPost_ret (v := .agg C2) (by simp [results, Tryz.results44, asAddr, Result.andThen, ql]) rfl ⟨by rw [HC2.out], hbp⟩
  · rw [decide_eq_false hj1, Bool.and_false]
    have fj : ((j : Int) + 1 == 9) = false := by rw [beq_eq_false_iff_ne]; exact hj1
    have fj2 : ((j : Int) + 1 != 9) = true := by simp [hj1]
    clear hj1
    have IA := ih o pa ⟨false, j + 1, en, r⟩ _ ha1 hpa (by omega) (by show j + 1 + t.size ≤ 1000; omega) (((hw.alloc (.cells #[.bool false, .int .i64 ((j : Int) + 1), .bool (en 0), .bool (en 1), .bool (en 2), .bool (en 3), .bool (en 4), .bool (en 5), .bool (en 6), .bool (en 7), .bool (en 8), .bool (en 9), .bool r] 49)).alloc (.cells #[.bool false, .int .i64 0, .bool false, .bool false, .bool false, .bool false, .bool false, .bool false, .bool false, .bool false, .bool false, .bool false, .bool false] 49)).alloc (.cells #[.int .i64 7, .int .u64 0, .int .u64 0, .int .u64 0, .int .u64 0, .int .i64 pa, .int .i64 0, .int .i64 0, .int .i64 0, .int .i64 9] 45))
    have hS0 : ThS w b o0 xs ⟨7, 0, 0, 0, 0, pa, 0, 0, 0, 9⟩ ⟨false, j + 1, en, r⟩ (((w.alloc (.cells #[.bool false, .int .i64 ((j : Int) + 1), .bool (en 0), .bool (en 1), .bool (en 2), .bool (en 3), .bool (en 4), .bool (en 5), .bool (en 6), .bool (en 7), .bool (en 8), .bool (en 9), .bool r] 49)).alloc (.cells #[.bool false, .int .i64 0, .bool false, .bool false, .bool false, .bool false, .bool false, .bool false, .bool false, .bool false, .bool false, .bool false, .bool false] 49)).alloc (.cells #[.int .i64 7, .int .u64 0, .int .u64 0, .int .u64 0, .int .u64 0, .int .i64 pa, .int .i64 0, .int .i64 0, .int .i64 0, .int .i64 9] 45)) := ThS.new hw ⟨7, 0, 0, 0, 0, pa, 0, 0, 0, 9⟩ ⟨false, j + 1, en, r⟩ #[.bool false, .int .i64 0, .bool false, .bool false, .bool false, .bool false, .bool false, .bool false, .bool false, .bool false, .bool false, .bool false, .bool false] rfl
    generalize thr (decide (n = 1)) t ⟨false, j + 1, en, r⟩ = U at *
    have hus : U.cells.size = 13 := rfl
    have hua : U.cells.all (·.oneCell') = true := Wk.cells_all _
    have hcn : U.cells[11]? = some (.bool (U.en 9)) := rfl
    have hc2 : (Wk.mk U.g U.k (fun i => if i = 9 then true else U.en i) U.r).cells = U.cells.setIfInBounds 11 (.bool true) := rfl
    rw [hc2]
    have hua2 : (U.cells.setIfInBounds 11 (.bool true)).all (·.oneCell') = true := by rw [← hc2]; exact Wk.cells_all _
    have hus2 : (U.cells.setIfInBounds 11 (.bool true)).size = 13 := by rw [← hc2]; rfl
    generalize U.en 9 = eN at *
    generalize U.cells = C at *
    have IA1 := Lib.hid IA
    clear IA hc2
    simp only [Wk.cells, Int.natCast_add, Int.natCast_one] at IA1
    simp only [Wk.cells]
    go_enter Tryz.func44, Tryz.ntmps44
    go_wp2_with fail
    refine IA1.out.mono ?_
    rintro e W1 ⟨rfl, hB1⟩
    have hS1 := hS0.step hB1
    obtain ⟨v1, hv1, hz1⟩ := hS1.rb
    have hst := hS1.wb.storeC rfl C hus hua
    have hp5 := hS1.wb.put C
    have nb5 : (W1.setRow w.heap.size C).heap[w.heap.size + 2]? = _ := (heap_setRow C (by omega)).trans hS1.nb
    have rb5 : WB (W1.setRow w.heap.size C) (w.heap.size + 1) v1 := ⟨(heap_setRow C (by omega)).trans hv1.heap⟩
    have z9 : (W1.setRow w.heap.size C).cell? ⟨w.heap.size + 1 + 1, 9, none⟩ = some (.int .i64 9) := (cell_of _ _ _ _ nb5 9).trans rfl
    have z5 : (W1.setRow w.heap.size C).cell? ⟨w.heap.size, 11, none⟩ = some (.bool eN) := (hp5.cell 11).trans hcn
    have zf : (W1.setRow w.heap.size C).frozen? ⟨w.heap.size, 11, none⟩ = false := hp5.fz 11
    have hb5 : Below w.heap.size w (W1.setRow w.heap.size C) := Below.setRow hS1.b (Nat.le_refl _) _
    have h6 : ((W1.setRow w.heap.size C).setCell ⟨w.heap.size, 11, none⟩ (.bool true)).heap[w.heap.size]? = some (.cells (C.setIfInBounds 11 (.bool true)) 49 (0, 0)) := heap_setCell_same _ _ _ _ _ _ hp5.heap
    have wb6 : WB ((W1.setRow w.heap.size C).setCell ⟨w.heap.size, 11, none⟩ (.bool true)) w.heap.size (C.setIfInBounds 11 (.bool true)) := ⟨h6⟩
    have rb6 : WB ((W1.setRow w.heap.size C).setCell ⟨w.heap.size, 11, none⟩ (.bool true)) (w.heap.size + 1) v1 := ⟨(Below.heap_setCell _ _ _ _ (by show w.heap.size + 1 ≠ w.heap.size; omega)).trans rb5.heap⟩
    have hb6 : Below w.heap.size w ((W1.setRow w.heap.size C).setCell ⟨w.heap.size, 11, none⟩ (.bool true)) := hb5.setCell (Nat.le_refl _) _
    generalize hC2 : C.setIfInBounds 11 (.bool true) = C2 at *
    have ql6 := wb6.load hus2
    have hst6 := rb6.storeC hz1 C2 hus2 hua2
    have hput6 := rb6.put C2
    have hbp := Below.setRow hb6 (b := w.heap.size + 1) (by omega) C2
    have HC2 := Lib.hid hC2
    clear hC2 h6 hp5 nb5 rb5 rb6 hb5 hb6 hcn
    go_wp2_with (refine wpList_load_wb wb6 hus2 rfl rfl rfl ?_)
    have ql := hput6.load hus2
    refine bodyPost_ret (v := .agg C2) (by simp [results, Tryz.results44, asAddr, Result.andThen, ql]) rfl ⟨by rw [HC2.out], hbp⟩

theorem thru_all (b o0 n cap : Nat) (xs : List Nd) (hlen : xs.length = n) (hn : n ≤ 120) : ∀ t : T, t.Ok → Thru b o0 n cap xs t
  | .leaf ⟨kd, w0, w1, w2, w3, xa, xb, m, M, xn⟩, h => by
    have hk := h.2
    simp only at hk
    rcases hk with rfl | rfl | rfl | rfl | rfl
    · exact thru_leaf0 b o0 n cap xs hlen hn w0 w1 w2 w3 xa xb m M xn
    · exact thru_leaf1 b o0 n cap xs hlen hn w0 w1 w2 w3 xa xb m M xn
    · exact thru_leaf2 b o0 n cap xs hlen hn w0 w1 w2 w3 xa xb m M xn
    · exact thru_leaf3 b o0 n cap xs hlen hn w0 w1 w2 w3 xa xb m M xn
    · have h1 := h.1
      unfold isNd at h1
      rw [if_neg (by simp only; omega), if_neg (by simp only; omega), if_neg (by simp only; omega), if_neg (by simp only; omega), if_neg (by simp only; omega), if_pos rfl, Bool.and_eq_true] at h1
      have hx := num_of h1.1
      simp only at hx
      rcases (by omega : xn = 1 ∨ xn = 2 ∨ xn = 3 ∨ xn = 4 ∨ xn = 5 ∨ xn = 6 ∨ xn = 7 ∨ xn = 8 ∨ xn = 9) with rfl | rfl | rfl | rfl | rfl | rfl | rfl | rfl | rfl
      · exact thru_leaf8_1 b o0 n cap xs hlen hn w0 w1 w2 w3 xa xb m M
      · exact thru_leaf8_2 b o0 n cap xs hlen hn w0 w1 w2 w3 xa xb m M
      · exact thru_leaf8_3 b o0 n cap xs hlen hn w0 w1 w2 w3 xa xb m M
      · exact thru_leaf8_4 b o0 n cap xs hlen hn w0 w1 w2 w3 xa xb m M
      · exact thru_leaf8_5 b o0 n cap xs hlen hn w0 w1 w2 w3 xa xb m M
      · exact thru_leaf8_6 b o0 n cap xs hlen hn w0 w1 w2 w3 xa xb m M
      · exact thru_leaf8_7 b o0 n cap xs hlen hn w0 w1 w2 w3 xa xb m M
      · exact thru_leaf8_8 b o0 n cap xs hlen hn w0 w1 w2 w3 xa xb m M
      · exact thru_leaf8_9 b o0 n cap xs hlen hn w0 w1 w2 w3 xa xb m M
  | .two k a c, h => by
    rcases h.1 with rfl | rfl
    · exact thru_two4 b o0 n cap xs hlen hn a c (thru_all b o0 n cap xs hlen hn a h.2.1) (thru_all b o0 n cap xs hlen hn c h.2.2)
    · exact thru_two5 b o0 n cap xs hlen hn a c (thru_all b o0 n cap xs hlen hn a h.2.1) (thru_all b o0 n cap xs hlen hn c h.2.2)
  | .times m M t, h => thru_times b o0 n cap xs hlen hn m M t (thru_all b o0 n cap xs hlen hn t h.2)
  | .group xn t, h => by
    have hx := num_of h.1
    have ih := thru_all b o0 n cap xs hlen hn t h.2
    rcases (by omega : xn = 1 ∨ xn = 2 ∨ xn = 3 ∨ xn = 4 ∨ xn = 5 ∨ xn = 6 ∨ xn = 7 ∨ xn = 8 ∨ xn = 9) with rfl | rfl | rfl | rfl | rfl | rfl | rfl | rfl | rfl
    · exact thru_group1 b o0 n cap xs hlen hn t ih
    · exact thru_group2 b o0 n cap xs hlen hn t ih
    · exact thru_group3 b o0 n cap xs hlen hn t ih
    · exact thru_group4 b o0 n cap xs hlen hn t ih
    · exact thru_group5 b o0 n cap xs hlen hn t ih
    · exact thru_group6 b o0 n cap xs hlen hn t ih
    · exact thru_group7 b o0 n cap xs hlen hn t ih
    · exact thru_group8 b o0 n cap xs hlen hn t ih
    · exact thru_group9 b o0 n cap xs hlen hn t ih

end Go.Proofs.YthcgboebmhabeaaGreatDoor
