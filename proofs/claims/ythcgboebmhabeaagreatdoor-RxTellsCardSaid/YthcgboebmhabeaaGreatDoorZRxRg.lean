/- The reference's through: a Times. -/
import Derived.Test.YthcgboebmhabeaaGreatDoorZRxRf
namespace Go.Proofs.YthcgboebmhabeaaGreatDoor
open Go.RowKit
set_option linter.unusedVariables false
set_option linter.unusedSimpArgs false

theorem WB.storeC {w : World} {b : Nat} {v : Array Value} (h : WB w b v) (hs : v.size = 13) (C : Array Value) (hc : C.size = 13) (ha : C.all (·.oneCell') = true) : (Go.storeCells ⟨b, 0, none⟩ C.toList).run Tryz.prog w = .ok () (w.setRow b C) := by
  have := run_storeVar_row (P := Tryz.prog) w b 49 49 v C h.heap (by rw [sizeWk, hc]) (by rw [hs, hc]) ha
  have hz := sizeWk
  cases hq : Tryz.prog.info? 49 with
  | none => simp [hq] at hz
  | some i =>
    have h2 : i.size = 13 := by simpa [hq] using hz
    simpa [storeVar, sizeOf, typeInfo, hq, Value.cells, h2, hc] using this

set_option maxRecDepth 100000 in
set_option maxHeartbeats 8000000 in
theorem thru_times (b o0 n cap : Nat) (xs : List Nd) (hlen : xs.length = n) (hn : n ≤ 120) (m M : Int) (t : T) (ih : Thru b o0 n cap xs t) : Thru b o0 n cap xs (T.times m M t) := by
  rintro o k ⟨g, j, en, r⟩ w ha he hk hj hw
  have hr := ha.root
  rw [show o + (T.times m M t).size - 1 = k by omega] at hr
  have lb := hw.lt
  have hk1 : (k : Int) < n := by omega
  have ha1 := ha.1
  have sa := t.size_pos
  simp only [T.size] at he hj
  simp only [T.root] at hr
  obtain ⟨pa, hpa⟩ : ∃ pa : Nat, o + t.size = pa + 1 := ⟨o + t.size - 1, by omega⟩
  rw [show (o : Int) + t.size - 1 = (pa : Int) by omega] at hr
  have hcell := hw.cell k _ hr
  have d0 : w.cell? ⟨b, o0 + k * 10, none⟩ = some (.int .i64 6) := hcell 0 _ rfl
  have d1 : w.cell? ⟨b, o0 + k * 10 + 1, none⟩ = some (.int .u64 0) := hcell 1 _ rfl
  have d2 : w.cell? ⟨b, o0 + k * 10 + 2, none⟩ = some (.int .u64 0) := hcell 2 _ rfl
  have d3 : w.cell? ⟨b, o0 + k * 10 + 3, none⟩ = some (.int .u64 0) := hcell 3 _ rfl
  have d4 : w.cell? ⟨b, o0 + k * 10 + 4, none⟩ = some (.int .u64 0) := hcell 4 _ rfl
  have d5 : w.cell? ⟨b, o0 + k * 10 + 5, none⟩ = some (.int .i64 pa) := hcell 5 _ rfl
  have d6 : w.cell? ⟨b, o0 + k * 10 + 6, none⟩ = some (.int .i64 0) := hcell 6 _ rfl
  have d7 : w.cell? ⟨b, o0 + k * 10 + 7, none⟩ = some (.int .i64 m) := hcell 7 _ rfl
  have d8 : w.cell? ⟨b, o0 + k * 10 + 8, none⟩ = some (.int .i64 M) := hcell 8 _ rfl
  have d9 : w.cell? ⟨b, o0 + k * 10 + 9, none⟩ = some (.int .i64 0) := hcell 9 _ rfl
  have hra := ha1.root
  rw [show o + t.size - 1 = pa by omega] at hra
  have q0 : w.cell? ⟨b, o0 + pa * 10, none⟩ = some (.int .i64 (rk t)) := by rw [← rk_root t o]; exact hw.cell pa _ hra 0 _ rfl
  have hpn : (pa : Int) < n := by omega
  have et : ∀ S, thr (decide (n = 1)) (T.times m M t) S = thr (decide (n = 1)) t ⟨S.g && okTimes t, S.k, S.en, S.r⟩ := fun S => rfl
  rw [et]
  have ek : okTimes t = (decide (rk t = 1) || decide (rk t = 7) || decide (rk t = 8)) := rfl
  clear hcell et
  by_cases k1 : rk t = 1
  · have f1 : (rk t == 1) = true := by simp [k1]
    rw [show okTimes t = true by rw [ek]; simp [k1], Bool.and_true]
    clear ek hr hra
    have IA := ih o pa ⟨g, j, en, r⟩ _ ha1 hpa (by omega) (by show j + t.size ≤ 1000; omega) (((hw.alloc (.cells #[.bool g, .int .i64 j, .bool (en 0), .bool (en 1), .bool (en 2), .bool (en 3), .bool (en 4), .bool (en 5), .bool (en 6), .bool (en 7), .bool (en 8), .bool (en 9), .bool r] 49)).alloc (.cells #[.bool false, .int .i64 0, .bool false, .bool false, .bool false, .bool false, .bool false, .bool false, .bool false, .bool false, .bool false, .bool false, .bool false] 49)).alloc (.cells #[.int .i64 6, .int .u64 0, .int .u64 0, .int .u64 0, .int .u64 0, .int .i64 pa, .int .i64 0, .int .i64 m, .int .i64 M, .int .i64 0] 45))
    have hS0 : ThS w b o0 xs ⟨6, 0, 0, 0, 0, pa, 0, m, M, 0⟩ ⟨g, j, en, r⟩ (((w.alloc (.cells #[.bool g, .int .i64 j, .bool (en 0), .bool (en 1), .bool (en 2), .bool (en 3), .bool (en 4), .bool (en 5), .bool (en 6), .bool (en 7), .bool (en 8), .bool (en 9), .bool r] 49)).alloc (.cells #[.bool false, .int .i64 0, .bool false, .bool false, .bool false, .bool false, .bool false, .bool false, .bool false, .bool false, .bool false, .bool false, .bool false] 49)).alloc (.cells #[.int .i64 6, .int .u64 0, .int .u64 0, .int .u64 0, .int .u64 0, .int .i64 pa, .int .i64 0, .int .i64 m, .int .i64 M, .int .i64 0] 45)) := ThS.new hw ⟨6, 0, 0, 0, 0, pa, 0, m, M, 0⟩ ⟨g, j, en, r⟩ #[.bool false, .int .i64 0, .bool false, .bool false, .bool false, .bool false, .bool false, .bool false, .bool false, .bool false, .bool false, .bool false, .bool false] rfl
    have hus : (thr (decide (n = 1)) t ⟨g, j, en, r⟩).cells.size = 13 := rfl
    have hua : (thr (decide (n = 1)) t ⟨g, j, en, r⟩).cells.all (·.oneCell') = true := Wk.cells_all _
    generalize (thr (decide (n = 1)) t ⟨g, j, en, r⟩).cells = C at *
    have IA1 := Lib.hid IA
    clear IA
    simp only [Wk.cells] at IA1
    simp only [Wk.cells]
    have lb2 : b < w.heap.size + 1 := by omega
    have lb3 : b < w.heap.size + 1 + 1 := by omega
    have qA : (((w.alloc (.cells #[.bool g, .int .i64 j, .bool (en 0), .bool (en 1), .bool (en 2), .bool (en 3), .bool (en 4), .bool (en 5), .bool (en 6), .bool (en 7), .bool (en 8), .bool (en 9), .bool r] 49)).alloc (.cells #[.bool false, .int .i64 0, .bool false, .bool false, .bool false, .bool false, .bool false, .bool false, .bool false, .bool false, .bool false, .bool false, .bool false] 49)).alloc (.cells #[.int .i64 6, .int .u64 0, .int .u64 0, .int .u64 0, .int .u64 0, .int .i64 pa, .int .i64 0, .int .i64 m, .int .i64 M, .int .i64 0] 45)).cell? ⟨b, o0 + pa * 10, none⟩ = some (.int .i64 (rk t)) := cell_alloc1 _ (cell_alloc1 _ (cell_alloc1 _ q0))
    go_enter Tryz.func44, Tryz.ntmps44
    go_wp2_with fail
    refine IA1.out.mono ?_
    rintro e W1 ⟨rfl, hB1⟩
    have hS1 := hS0.step hB1
    obtain ⟨v1, hv1, hz1⟩ := hS1.rb
    have hst := hv1.storeC hz1 C hus hua
    have hput := hv1.put C
    have hbp : Below w.heap.size w (W1.setRow (w.heap.size + 1) C) := Below.setRow hS1.b (by omega) _
    go_wp2
    have ql := hput.load hus
    refine bodyPost_ret (v := .agg C) (by simp [results, Tryz.results44, asAddr, Result.andThen, ql]) rfl ⟨rfl, hbp⟩
  have f1 : (rk t == 1) = false := by rw [beq_eq_false_iff_ne]; exact k1
  by_cases k7 : rk t = 7
  · have f7 : (rk t == 7) = true := by simp [k7]
    rw [show okTimes t = true by rw [ek]; simp [k7], Bool.and_true]
    clear ek hr hra
    have IA := ih o pa ⟨g, j, en, r⟩ _ ha1 hpa (by omega) (by show j + t.size ≤ 1000; omega) (((hw.alloc (.cells #[.bool g, .int .i64 j, .bool (en 0), .bool (en 1), .bool (en 2), .bool (en 3), .bool (en 4), .bool (en 5), .bool (en 6), .bool (en 7), .bool (en 8), .bool (en 9), .bool r] 49)).alloc (.cells #[.bool false, .int .i64 0, .bool false, .bool false, .bool false, .bool false, .bool false, .bool false, .bool false, .bool false, .bool false, .bool false, .bool false] 49)).alloc (.cells #[.int .i64 6, .int .u64 0, .int .u64 0, .int .u64 0, .int .u64 0, .int .i64 pa, .int .i64 0, .int .i64 m, .int .i64 M, .int .i64 0] 45))
    have hS0 : ThS w b o0 xs ⟨6, 0, 0, 0, 0, pa, 0, m, M, 0⟩ ⟨g, j, en, r⟩ (((w.alloc (.cells #[.bool g, .int .i64 j, .bool (en 0), .bool (en 1), .bool (en 2), .bool (en 3), .bool (en 4), .bool (en 5), .bool (en 6), .bool (en 7), .bool (en 8), .bool (en 9), .bool r] 49)).alloc (.cells #[.bool false, .int .i64 0, .bool false, .bool false, .bool false, .bool false, .bool false, .bool false, .bool false, .bool false, .bool false, .bool false, .bool false] 49)).alloc (.cells #[.int .i64 6, .int .u64 0, .int .u64 0, .int .u64 0, .int .u64 0, .int .i64 pa, .int .i64 0, .int .i64 m, .int .i64 M, .int .i64 0] 45)) := ThS.new hw ⟨6, 0, 0, 0, 0, pa, 0, m, M, 0⟩ ⟨g, j, en, r⟩ #[.bool false, .int .i64 0, .bool false, .bool false, .bool false, .bool false, .bool false, .bool false, .bool false, .bool false, .bool false, .bool false, .bool false] rfl
    have hus : (thr (decide (n = 1)) t ⟨g, j, en, r⟩).cells.size = 13 := rfl
    have hua : (thr (decide (n = 1)) t ⟨g, j, en, r⟩).cells.all (·.oneCell') = true := Wk.cells_all _
    generalize (thr (decide (n = 1)) t ⟨g, j, en, r⟩).cells = C at *
    have IA1 := Lib.hid IA
    clear IA
    simp only [Wk.cells] at IA1
    simp only [Wk.cells]
    have lb2 : b < w.heap.size + 1 := by omega
    have lb3 : b < w.heap.size + 1 + 1 := by omega
    have qA : (((w.alloc (.cells #[.bool g, .int .i64 j, .bool (en 0), .bool (en 1), .bool (en 2), .bool (en 3), .bool (en 4), .bool (en 5), .bool (en 6), .bool (en 7), .bool (en 8), .bool (en 9), .bool r] 49)).alloc (.cells #[.bool false, .int .i64 0, .bool false, .bool false, .bool false, .bool false, .bool false, .bool false, .bool false, .bool false, .bool false, .bool false, .bool false] 49)).alloc (.cells #[.int .i64 6, .int .u64 0, .int .u64 0, .int .u64 0, .int .u64 0, .int .i64 pa, .int .i64 0, .int .i64 m, .int .i64 M, .int .i64 0] 45)).cell? ⟨b, o0 + pa * 10, none⟩ = some (.int .i64 (rk t)) := cell_alloc1 _ (cell_alloc1 _ (cell_alloc1 _ q0))
    go_enter Tryz.func44, Tryz.ntmps44
    go_wp2_with fail
    refine IA1.out.mono ?_
    rintro e W1 ⟨rfl, hB1⟩
    have hS1 := hS0.step hB1
    obtain ⟨v1, hv1, hz1⟩ := hS1.rb
    have hst := hv1.storeC hz1 C hus hua
    have hput := hv1.put C
    have hbp : Below w.heap.size w (W1.setRow (w.heap.size + 1) C) := Below.setRow hS1.b (by omega) _
    go_wp2
    have ql := hput.load hus
    refine bodyPost_ret (v := .agg C) (by simp [results, Tryz.results44, asAddr, Result.andThen, ql]) rfl ⟨rfl, hbp⟩
  have f7 : (rk t == 7) = false := by rw [beq_eq_false_iff_ne]; exact k7
  by_cases k8 : rk t = 8
  · have f8 : (rk t == 8) = true := by simp [k8]
    rw [show okTimes t = true by rw [ek]; simp [k8], Bool.and_true]
    clear ek hr hra
    have IA := ih o pa ⟨g, j, en, r⟩ _ ha1 hpa (by omega) (by show j + t.size ≤ 1000; omega) (((hw.alloc (.cells #[.bool g, .int .i64 j, .bool (en 0), .bool (en 1), .bool (en 2), .bool (en 3), .bool (en 4), .bool (en 5), .bool (en 6), .bool (en 7), .bool (en 8), .bool (en 9), .bool r] 49)).alloc (.cells #[.bool false, .int .i64 0, .bool false, .bool false, .bool false, .bool false, .bool false, .bool false, .bool false, .bool false, .bool false, .bool false, .bool false] 49)).alloc (.cells #[.int .i64 6, .int .u64 0, .int .u64 0, .int .u64 0, .int .u64 0, .int .i64 pa, .int .i64 0, .int .i64 m, .int .i64 M, .int .i64 0] 45))
    have hS0 : ThS w b o0 xs ⟨6, 0, 0, 0, 0, pa, 0, m, M, 0⟩ ⟨g, j, en, r⟩ (((w.alloc (.cells #[.bool g, .int .i64 j, .bool (en 0), .bool (en 1), .bool (en 2), .bool (en 3), .bool (en 4), .bool (en 5), .bool (en 6), .bool (en 7), .bool (en 8), .bool (en 9), .bool r] 49)).alloc (.cells #[.bool false, .int .i64 0, .bool false, .bool false, .bool false, .bool false, .bool false, .bool false, .bool false, .bool false, .bool false, .bool false, .bool false] 49)).alloc (.cells #[.int .i64 6, .int .u64 0, .int .u64 0, .int .u64 0, .int .u64 0, .int .i64 pa, .int .i64 0, .int .i64 m, .int .i64 M, .int .i64 0] 45)) := ThS.new hw ⟨6, 0, 0, 0, 0, pa, 0, m, M, 0⟩ ⟨g, j, en, r⟩ #[.bool false, .int .i64 0, .bool false, .bool false, .bool false, .bool false, .bool false, .bool false, .bool false, .bool false, .bool false, .bool false, .bool false] rfl
    have hus : (thr (decide (n = 1)) t ⟨g, j, en, r⟩).cells.size = 13 := rfl
    have hua : (thr (decide (n = 1)) t ⟨g, j, en, r⟩).cells.all (·.oneCell') = true := Wk.cells_all _
    generalize (thr (decide (n = 1)) t ⟨g, j, en, r⟩).cells = C at *
    have IA1 := Lib.hid IA
    clear IA
    simp only [Wk.cells] at IA1
    simp only [Wk.cells]
    have lb2 : b < w.heap.size + 1 := by omega
    have lb3 : b < w.heap.size + 1 + 1 := by omega
    have qA : (((w.alloc (.cells #[.bool g, .int .i64 j, .bool (en 0), .bool (en 1), .bool (en 2), .bool (en 3), .bool (en 4), .bool (en 5), .bool (en 6), .bool (en 7), .bool (en 8), .bool (en 9), .bool r] 49)).alloc (.cells #[.bool false, .int .i64 0, .bool false, .bool false, .bool false, .bool false, .bool false, .bool false, .bool false, .bool false, .bool false, .bool false, .bool false] 49)).alloc (.cells #[.int .i64 6, .int .u64 0, .int .u64 0, .int .u64 0, .int .u64 0, .int .i64 pa, .int .i64 0, .int .i64 m, .int .i64 M, .int .i64 0] 45)).cell? ⟨b, o0 + pa * 10, none⟩ = some (.int .i64 (rk t)) := cell_alloc1 _ (cell_alloc1 _ (cell_alloc1 _ q0))
    go_enter Tryz.func44, Tryz.ntmps44
    go_wp2_with fail
    refine IA1.out.mono ?_
    rintro e W1 ⟨rfl, hB1⟩
    have hS1 := hS0.step hB1
    obtain ⟨v1, hv1, hz1⟩ := hS1.rb
    have hst := hv1.storeC hz1 C hus hua
    have hput := hv1.put C
    have hbp : Below w.heap.size w (W1.setRow (w.heap.size + 1) C) := Below.setRow hS1.b (by omega) _
    go_wp2
    have ql := hput.load hus
    refine bodyPost_ret (v := .agg C) (by simp [results, Tryz.results44, asAddr, Result.andThen, ql]) rfl ⟨rfl, hbp⟩
  · have f8 : (rk t == 8) = false := by rw [beq_eq_false_iff_ne]; exact k8
    have g1 : (rk t != 1) = true := by simp [k1]
    have g7 : (rk t != 7) = true := by simp [k7]
    have g8 : (rk t != 8) = true := by simp [k8]
    rw [show okTimes t = false by rw [ek]; simp [k1, k7, k8], Bool.and_false]
    clear ek hr hra
    have IA := ih o pa ⟨false, j, en, r⟩ _ ha1 hpa (by omega) (by show j + t.size ≤ 1000; omega) (((hw.alloc (.cells #[.bool false, .int .i64 j, .bool (en 0), .bool (en 1), .bool (en 2), .bool (en 3), .bool (en 4), .bool (en 5), .bool (en 6), .bool (en 7), .bool (en 8), .bool (en 9), .bool r] 49)).alloc (.cells #[.bool false, .int .i64 0, .bool false, .bool false, .bool false, .bool false, .bool false, .bool false, .bool false, .bool false, .bool false, .bool false, .bool false] 49)).alloc (.cells #[.int .i64 6, .int .u64 0, .int .u64 0, .int .u64 0, .int .u64 0, .int .i64 pa, .int .i64 0, .int .i64 m, .int .i64 M, .int .i64 0] 45))
    have hS0 : ThS w b o0 xs ⟨6, 0, 0, 0, 0, pa, 0, m, M, 0⟩ ⟨false, j, en, r⟩ (((w.alloc (.cells #[.bool false, .int .i64 j, .bool (en 0), .bool (en 1), .bool (en 2), .bool (en 3), .bool (en 4), .bool (en 5), .bool (en 6), .bool (en 7), .bool (en 8), .bool (en 9), .bool r] 49)).alloc (.cells #[.bool false, .int .i64 0, .bool false, .bool false, .bool false, .bool false, .bool false, .bool false, .bool false, .bool false, .bool false, .bool false, .bool false] 49)).alloc (.cells #[.int .i64 6, .int .u64 0, .int .u64 0, .int .u64 0, .int .u64 0, .int .i64 pa, .int .i64 0, .int .i64 m, .int .i64 M, .int .i64 0] 45)) := ThS.new hw ⟨6, 0, 0, 0, 0, pa, 0, m, M, 0⟩ ⟨false, j, en, r⟩ #[.bool false, .int .i64 0, .bool false, .bool false, .bool false, .bool false, .bool false, .bool false, .bool false, .bool false, .bool false, .bool false, .bool false] rfl
    have hus : (thr (decide (n = 1)) t ⟨false, j, en, r⟩).cells.size = 13 := rfl
    have hua : (thr (decide (n = 1)) t ⟨false, j, en, r⟩).cells.all (·.oneCell') = true := Wk.cells_all _
    generalize (thr (decide (n = 1)) t ⟨false, j, en, r⟩).cells = C at *
    have IA1 := Lib.hid IA
    clear IA
    simp only [Wk.cells] at IA1
    simp only [Wk.cells]
    have lb2 : b < w.heap.size + 1 := by omega
    have lb3 : b < w.heap.size + 1 + 1 := by omega
    have qA : (((w.alloc (.cells #[.bool false, .int .i64 j, .bool (en 0), .bool (en 1), .bool (en 2), .bool (en 3), .bool (en 4), .bool (en 5), .bool (en 6), .bool (en 7), .bool (en 8), .bool (en 9), .bool r] 49)).alloc (.cells #[.bool false, .int .i64 0, .bool false, .bool false, .bool false, .bool false, .bool false, .bool false, .bool false, .bool false, .bool false, .bool false, .bool false] 49)).alloc (.cells #[.int .i64 6, .int .u64 0, .int .u64 0, .int .u64 0, .int .u64 0, .int .i64 pa, .int .i64 0, .int .i64 m, .int .i64 M, .int .i64 0] 45)).cell? ⟨b, o0 + pa * 10, none⟩ = some (.int .i64 (rk t)) := cell_alloc1 _ (cell_alloc1 _ (cell_alloc1 _ q0))
    go_enter Tryz.func44, Tryz.ntmps44
    go_wp2_with fail
    refine IA1.out.mono ?_
    rintro e W1 ⟨rfl, hB1⟩
    have hS1 := hS0.step hB1
    obtain ⟨v1, hv1, hz1⟩ := hS1.rb
    have hst := hv1.storeC hz1 C hus hua
    have hput := hv1.put C
    have hbp : Below w.heap.size w (W1.setRow (w.heap.size + 1) C) := Below.setRow hS1.b (by omega) _
    go_wp2
    have ql := hput.load hus
    refine bodyPost_ret (v := .agg C) (by simp [results, Tryz.results44, asAddr, Result.andThen, ql]) rfl ⟨rfl, hbp⟩

end Go.Proofs.YthcgboebmhabeaaGreatDoor
