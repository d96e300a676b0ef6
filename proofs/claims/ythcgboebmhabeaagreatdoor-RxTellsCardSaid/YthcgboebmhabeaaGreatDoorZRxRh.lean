/- The reference's through: Cat, Alt, a Group; all. -/
import Derived.Test.YthcgboebmhabeaaGreatDoorZRxRg
import Derived.Deep.RegionHeld3
namespace Go.Proofs.YthcgboebmhabeaaGreatDoor
open Go.RowKit
set_option linter.unusedVariables false
set_option linter.unusedSimpArgs false

theorem T.groups_le : ∀ t : T, t.groups ≤ t.size
  | .leaf _ => by simp [T.groups, T.size]
  | .two _ a b => by have := T.groups_le a; have := T.groups_le b; simp only [T.groups, T.size]; omega
  | .times _ _ t => by have := T.groups_le t; simp only [T.groups, T.size]; omega
  | .group _ t => by have := T.groups_le t; simp only [T.groups, T.size]; omega
theorem NodesAt.setRow {w : World} {b o : Nat} {xs : List Nd} (h : NodesAt w b o xs) {B : Nat} (hb : b ≠ B) (C : Array Value) : NodesAt (w.setRow B C) b o xs := by
  have hk : (w.setRow B C).heap[b]? = w.heap[b]? := by
    show (w.heap.modify B _)[b]? = _
    rw [Array.getElem?_modify, if_neg (fun e => hb e.symm)]
  refine ⟨by have := h.lt; simpa [World.setRow] using this, fun i x hx j v hv => ?_⟩
  have := h.cell i x hx j v hv
  unfold World.cell? at this ⊢
  rw [hk]
  exact this
theorem heap_setRow {w : World} {B k : Nat} (C : Array Value) (hk : k ≠ B) : (w.setRow B C).heap[k]? = w.heap[k]? := by
  show (w.heap.modify B _)[k]? = _
  rw [Array.getElem?_modify, if_neg (fun e => hk e.symm)]
theorem ThS.put {w w1 : World} {b o : Nat} {xs : List Nd} {x : Nd} {W : Wk} (h : ThS w b o xs x W w1) (lb : b < w.heap.size) (C : Array Value) (hc : C.size = 13) : ThS w b o xs x W (w1.setRow (w.heap.size + 1) C) := by
  obtain ⟨v, hv, hz⟩ := h.rb
  exact ⟨h.nodes.setRow (by omega) C, ⟨(heap_setRow C (by omega)).trans h.wb.heap⟩, ⟨C, hv.put C, hc⟩, (heap_setRow C (by omega)).trans h.nb, Below.setRow h.b (by omega) _⟩

set_option maxRecDepth 100000 in
set_option maxHeartbeats 8000000 in
theorem thru_two4 (b o0 n cap : Nat) (xs : List Nd) (hlen : xs.length = n) (hn : n ≤ 120) (a c : T) (iha : Thru b o0 n cap xs a) (ihc : Thru b o0 n cap xs c) : Thru b o0 n cap xs (T.two 4 a c) := by
  rintro o k ⟨g, j, en, r⟩ w ha he hk hj hw
  have hr := ha.root
  rw [show o + (T.two 4 a c).size - 1 = k by omega] at hr
  have lb := hw.lt
  have hk1 : (k : Int) < n := by omega
  have ha1 := ha.1
  have hc1 := ha.2.1
  have sa := a.size_pos
  have sc := c.size_pos
  simp only [T.size] at he hj
  simp only [T.root] at hr
  obtain ⟨pa, hpa⟩ : ∃ pa : Nat, o + a.size = pa + 1 := ⟨o + a.size - 1, by omega⟩
  obtain ⟨pc, hpc⟩ : ∃ pc : Nat, o + a.size + c.size = pc + 1 := ⟨o + a.size + c.size - 1, by omega⟩
  rw [show (o : Int) + a.size - 1 = (pa : Int) by omega, show (o : Int) + a.size + c.size - 1 = (pc : Int) by omega] at hr
  have hcell := hw.cell k _ hr
  have d0 : w.cell? ⟨b, o0 + k * 10, none⟩ = some (.int .i64 4) := hcell 0 _ rfl
  have d1 : w.cell? ⟨b, o0 + k * 10 + 1, none⟩ = some (.int .u64 0) := hcell 1 _ rfl
  have d2 : w.cell? ⟨b, o0 + k * 10 + 2, none⟩ = some (.int .u64 0) := hcell 2 _ rfl
  have d3 : w.cell? ⟨b, o0 + k * 10 + 3, none⟩ = some (.int .u64 0) := hcell 3 _ rfl
  have d4 : w.cell? ⟨b, o0 + k * 10 + 4, none⟩ = some (.int .u64 0) := hcell 4 _ rfl
  have d5 : w.cell? ⟨b, o0 + k * 10 + 5, none⟩ = some (.int .i64 pa) := hcell 5 _ rfl
  have d6 : w.cell? ⟨b, o0 + k * 10 + 6, none⟩ = some (.int .i64 pc) := hcell 6 _ rfl
  have d7 : w.cell? ⟨b, o0 + k * 10 + 7, none⟩ = some (.int .i64 0) := hcell 7 _ rfl
  have d8 : w.cell? ⟨b, o0 + k * 10 + 8, none⟩ = some (.int .i64 0) := hcell 8 _ rfl
  have d9 : w.cell? ⟨b, o0 + k * 10 + 9, none⟩ = some (.int .i64 0) := hcell 9 _ rfl
  have hra := ha1.root
  have hrc := hc1.root
  rw [show o + a.size - 1 = pa by omega] at hra
  rw [show o + a.size + c.size - 1 = pc by omega] at hrc
  have q0 : w.cell? ⟨b, o0 + pa * 10, none⟩ = some (.int .i64 (rk a)) := by rw [← rk_root a o]; exact hw.cell pa _ hra 0 _ rfl
  have q1 : w.cell? ⟨b, o0 + pc * 10, none⟩ = some (.int .i64 (rk c)) := by rw [← rk_root c (o + a.size)]; exact hw.cell pc _ hrc 0 _ rfl
  have hpn : (pa : Int) < n := by omega
  have hpm : (pc : Int) < n := by omega
  have et : ∀ S, thr (decide (n = 1)) (T.two 4 a c) S = thr (decide (n = 1)) c (thr (decide (n = 1)) a ⟨S.g && okTwo 4 a c, S.k, S.en, S.r⟩) := fun S => rfl
  rw [et]
  have ek : okTwo 4 a c = !(decide (rk a = 4) || decide (rk a = 5) || decide (rk c = 5)) := rfl
  clear hcell et hr hra hrc
  by_cases k4 : rk a = 4
  · have f4 : (rk a == 4) = true := by simp [k4]
    rw [show okTwo 4 a c = false by rw [ek]; simp [k4], Bool.and_false]
    clear ek
    have IA := fun w' hx => iha o pa ⟨false, j, en, r⟩ w' ha1 hpa (by omega) (by show j + a.size ≤ 1000; omega) hx
    have hS0 : ThS w b o0 xs ⟨4, 0, 0, 0, 0, pa, pc, 0, 0, 0⟩ ⟨false, j, en, r⟩ (((w.alloc (.cells #[.bool false, .int .i64 j, .bool (en 0), .bool (en 1), .bool (en 2), .bool (en 3), .bool (en 4), .bool (en 5), .bool (en 6), .bool (en 7), .bool (en 8), .bool (en 9), .bool r] 49)).alloc (.cells #[.bool false, .int .i64 0, .bool false, .bool false, .bool false, .bool false, .bool false, .bool false, .bool false, .bool false, .bool false, .bool false, .bool false] 49)).alloc (.cells #[.int .i64 4, .int .u64 0, .int .u64 0, .int .u64 0, .int .u64 0, .int .i64 pa, .int .i64 pc, .int .i64 0, .int .i64 0, .int .i64 0] 45)) := ThS.new hw ⟨4, 0, 0, 0, 0, pa, pc, 0, 0, 0⟩ ⟨false, j, en, r⟩ #[.bool false, .int .i64 0, .bool false, .bool false, .bool false, .bool false, .bool false, .bool false, .bool false, .bool false, .bool false, .bool false, .bool false] rfl
    have hU : (thr (decide (n = 1)) a ⟨false, j, en, r⟩).k + c.size ≤ 1000 := by rw [thr_k]; have := T.groups_le a; show j + a.groups + c.size ≤ 1000; omega
    generalize thr (decide (n = 1)) a ⟨false, j, en, r⟩ = U at *
    have IC := fun w' hx => ihc (o + a.size) pc U w' hc1 hpc (by omega) hU hx
    have hus : (thr (decide (n = 1)) c U).cells.size = 13 := rfl
    have hua : (thr (decide (n = 1)) c U).cells.all (·.oneCell') = true := Wk.cells_all _
    generalize (thr (decide (n = 1)) c U).cells = C at *
    have uu : ∃ D, D = U.cells := ⟨_, rfl⟩
    obtain ⟨D, hD⟩ := uu
    rw [← hD] at IA IC
    have IA1 := Lib.hid IA
    have IC1 := Lib.hid IC
    clear IA IC iha ihc hD hU
    simp only [Wk.cells] at IA1
    simp only [Wk.cells]
    have qA : (((w.alloc (.cells #[.bool g, .int .i64 j, .bool (en 0), .bool (en 1), .bool (en 2), .bool (en 3), .bool (en 4), .bool (en 5), .bool (en 6), .bool (en 7), .bool (en 8), .bool (en 9), .bool r] 49)).alloc (.cells #[.bool false, .int .i64 0, .bool false, .bool false, .bool false, .bool false, .bool false, .bool false, .bool false, .bool false, .bool false, .bool false, .bool false] 49)).alloc (.cells #[.int .i64 4, .int .u64 0, .int .u64 0, .int .u64 0, .int .u64 0, .int .i64 pa, .int .i64 pc, .int .i64 0, .int .i64 0, .int .i64 0] 45)).cell? ⟨b, o0 + pa * 10, none⟩ = some (.int .i64 (rk a)) := cell_alloc1 _ (cell_alloc1 _ (cell_alloc1 _ q0))
    have qC : (((w.alloc (.cells #[.bool g, .int .i64 j, .bool (en 0), .bool (en 1), .bool (en 2), .bool (en 3), .bool (en 4), .bool (en 5), .bool (en 6), .bool (en 7), .bool (en 8), .bool (en 9), .bool r] 49)).alloc (.cells #[.bool false, .int .i64 0, .bool false, .bool false, .bool false, .bool false, .bool false, .bool false, .bool false, .bool false, .bool false, .bool false, .bool false] 49)).alloc (.cells #[.int .i64 4, .int .u64 0, .int .u64 0, .int .u64 0, .int .u64 0, .int .i64 pa, .int .i64 pc, .int .i64 0, .int .i64 0, .int .i64 0] 45)).cell? ⟨b, o0 + pc * 10, none⟩ = some (.int .i64 (rk c)) := cell_alloc1 _ (cell_alloc1 _ (cell_alloc1 _ q1))
    have lb2 : b < w.heap.size + 1 := by omega
    have lb3 : b < w.heap.size + 1 + 1 := by omega
    go_enter Tryz.func44, Tryz.ntmps44
    go_wp2_with fail
    refine wp_region_noPanic ?_
    refine wp_region_held_drew (S := ThS w b o0 xs ⟨4, 0, 0, 0, 0, pa, pc, 0, 0, 0⟩ ⟨false, j, en, r⟩) (by kernel_rfl) ?_ (fun hHeld => ?_)
    · (try dsimp only); exact hS0.drew
    refine wpAnyH_take (i := 0) (v := ?_) rfl (by kernel_rfl) (by kernel_rfl) (by kernel_rfl) (fun _ _ _ h => h) (Or.inl ⟨by kernel_rfl, ?_⟩) (by assumption) ?_
    rotate_left
    · (intro w hSw; (try dsimp only at hSw); go_simp); (try with_reducible rfl)
    try simp only [Act.put, List.getElem_toArray, List.getElem_cons_succ, List.getElem_cons_zero, List.setIfInBounds_toArray, List.set_cons_zero, List.set_cons_succ]
    refine wpAnyH_take (i := 1) (v := ?_) rfl (by kernel_rfl) (by kernel_rfl) (by kernel_rfl) (fun _ _ _ h => h) (Or.inl ⟨by kernel_rfl, ?_⟩) (by assumption) ?_
    rotate_left
    · (intro w hSw; (try dsimp only at hSw); go_simp); (try with_reducible rfl)
    try simp only [Act.put, List.getElem_toArray, List.getElem_cons_succ, List.getElem_cons_zero, List.setIfInBounds_toArray, List.set_cons_zero, List.set_cons_succ]
    refine wpAnyH_take (i := 2) (v := ?_) rfl (by kernel_rfl) (by kernel_rfl) (by kernel_rfl) (fun _ _ _ h => h) (Or.inl ⟨by kernel_rfl, ?_⟩) (by assumption) ?_
    rotate_left
    · (intro w9 hSw; have z6 : w9.cell? ⟨w.heap.size + 1 + 1, 6, none⟩ = some (.int .i64 pc) := (hSw.ncell 6).trans rfl; go_simp); (try with_reducible rfl)
    try simp only [Act.put, List.getElem_toArray, List.getElem_cons_succ, List.getElem_cons_zero, List.setIfInBounds_toArray, List.set_cons_zero, List.set_cons_succ]
    refine wpAnyH_take (i := 3) (v := ?_) rfl (by kernel_rfl) (by kernel_rfl) (by kernel_rfl) (fun _ _ _ h => h) (Or.inl ⟨by kernel_rfl, ?_⟩) (by assumption) ?_
    rotate_left
    · (intro w hSw; (try dsimp only at hSw); go_simp); (try with_reducible rfl)
    try simp only [Act.put, List.getElem_toArray, List.getElem_cons_succ, List.getElem_cons_zero, List.setIfInBounds_toArray, List.set_cons_zero, List.set_cons_succ]
    refine wpAnyH_take (i := 4) (v := ?_) rfl (by kernel_rfl) (by kernel_rfl) (by kernel_rfl) (fun _ _ _ h => h) (Or.inl ⟨by kernel_rfl, ?_⟩) (by assumption) ?_
    rotate_left
    · (intro w hSw; (try dsimp only at hSw); go_simp); (try with_reducible rfl)
    try simp only [Act.put, List.getElem_toArray, List.getElem_cons_succ, List.getElem_cons_zero, List.setIfInBounds_toArray, List.set_cons_zero, List.set_cons_succ]
    refine wpAnyH_take (i := 5) (v := ?_) rfl (by kernel_rfl) (by kernel_rfl) (by kernel_rfl) (fun _ _ _ h => h) (Or.inl ⟨by kernel_rfl, ?_⟩) (by assumption) ?_
    rotate_left
    · (intro w9 hSw; have z5 : w9.cell? ⟨w.heap.size + 1 + 1, 5, none⟩ = some (.int .i64 pa) := (hSw.ncell 5).trans rfl; go_simp); (try with_reducible rfl)
    try simp only [Act.put, List.getElem_toArray, List.getElem_cons_succ, List.getElem_cons_zero, List.setIfInBounds_toArray, List.set_cons_zero, List.set_cons_succ]
    refine wpAnyH_take (i := 6) (v := ?_) rfl (by kernel_rfl) (by kernel_rfl) (by kernel_rfl) (fun _ _ _ h => h) (Or.inl ⟨by kernel_rfl, ?_⟩) (by assumption) ?_
    rotate_left
    · (intro w9 hSw; have y0 : w9.cell? ⟨w.heap.size, 0, none⟩ = some (.bool false) := (hSw.wb.cell 0).trans rfl; have y1 : w9.cell? ⟨w.heap.size, 1, none⟩ = some (.int .i64 j) := (hSw.wb.cell 1).trans rfl; have y2 : w9.cell? ⟨w.heap.size, 2, none⟩ = some (.bool (en 0)) := (hSw.wb.cell 2).trans rfl; have y3 : w9.cell? ⟨w.heap.size, 3, none⟩ = some (.bool (en 1)) := (hSw.wb.cell 3).trans rfl; have y4 : w9.cell? ⟨w.heap.size, 4, none⟩ = some (.bool (en 2)) := (hSw.wb.cell 4).trans rfl; have y5 : w9.cell? ⟨w.heap.size, 5, none⟩ = some (.bool (en 3)) := (hSw.wb.cell 5).trans rfl; have y6 : w9.cell? ⟨w.heap.size, 6, none⟩ = some (.bool (en 4)) := (hSw.wb.cell 6).trans rfl; have y7 : w9.cell? ⟨w.heap.size, 7, none⟩ = some (.bool (en 5)) := (hSw.wb.cell 7).trans rfl; have y8 : w9.cell? ⟨w.heap.size, 8, none⟩ = some (.bool (en 6)) := (hSw.wb.cell 8).trans rfl; have y9 : w9.cell? ⟨w.heap.size, 9, none⟩ = some (.bool (en 7)) := (hSw.wb.cell 9).trans rfl; have y10 : w9.cell? ⟨w.heap.size, 10, none⟩ = some (.bool (en 8)) := (hSw.wb.cell 10).trans rfl; have y11 : w9.cell? ⟨w.heap.size, 11, none⟩ = some (.bool (en 9)) := (hSw.wb.cell 11).trans rfl; have y12 : w9.cell? ⟨w.heap.size, 12, none⟩ = some (.bool r) := (hSw.wb.cell 12).trans rfl; go_simp); (try with_reducible rfl)
    try simp only [Act.put, List.getElem_toArray, List.getElem_cons_succ, List.getElem_cons_zero, List.setIfInBounds_toArray, List.set_cons_zero, List.set_cons_succ]
    refine wpAnyH_ready (rs := [7]) (by kernel_rfl) (by simp) ?_
    refine AllReadyH.cons rfl (fun K hK => ?_) ?_
    rotate_left
    · exact AllReadyH.nil
    go_simp
    refine (IA1.out _ hHeld.nodes).mono ?_
    rintro e W1 ⟨rfl, hB⟩
    have hS1 := hHeld.step hB
    clear hB hHeld
    refine hK.out _ _ ?_ (fun hHeld => ?_)
    · (try dsimp only); exact hS1
    clear hK K
    try simp only [Act.put, List.getElem_toArray, List.getElem_cons_succ, List.getElem_cons_zero, List.setIfInBounds_toArray, List.set_cons_zero, List.set_cons_succ]
    refine wpAnyH_ready (rs := [8]) (by kernel_rfl) (by simp) ?_
    refine AllReadyH.cons rfl (fun K hK => ?_) ?_
    rotate_left
    · exact AllReadyH.nil
    go_simp
    refine (IC1.out _ hHeld.nodes).mono ?_
    rintro e W2 ⟨rfl, hB⟩
    have hS2 := hHeld.step hB
    clear hB hHeld
    refine hK.out _ _ ?_ (fun hHeld => ?_)
    · (try dsimp only); exact hS2
    clear hK K
    try simp only [Act.put, List.getElem_toArray, List.getElem_cons_succ, List.getElem_cons_zero, List.setIfInBounds_toArray, List.set_cons_zero, List.set_cons_succ]
    obtain ⟨v1, hv1, hz1⟩ := hS2.rb
    have hst := hv1.storeC hz1 C hus hua
    have hput := hv1.put C
    have hS3 := hS2.put lb C hus
    refine wpAnyH_ready (rs := [9]) (by kernel_rfl) (by simp) ?_
    refine AllReadyH.cons rfl (fun K hK => ?_) ?_
    rotate_left
    · exact AllReadyH.nil
    go_simp
    refine hK.out _ _ ?_ (fun hHeld => ?_)
    · (try dsimp only); exact hS3
    clear hK K
    try simp only [Act.put, List.getElem_toArray, List.getElem_cons_succ, List.getElem_cons_zero, List.setIfInBounds_toArray, List.set_cons_zero, List.set_cons_succ]
    refine wpAnyH_done (by kernel_rfl) ?_ _
    refine NoPanic.normal ?_
    go_wp2
    have ql := hput.load hus
    refine bodyPost_ret (v := .agg C) (by simp [results, Tryz.results44, asAddr, Result.andThen, ql]) rfl ⟨rfl, hS3.b⟩
  have f4 : (rk a == 4) = false := by rw [beq_eq_false_iff_ne]; exact k4
  by_cases k5 : rk a = 5
  · have f5 : (rk a == 5) = true := by simp [k5]
    rw [show okTwo 4 a c = false by rw [ek]; simp [k5], Bool.and_false]
    clear ek
    have IA := fun w' hx => iha o pa ⟨false, j, en, r⟩ w' ha1 hpa (by omega) (by show j + a.size ≤ 1000; omega) hx
    have hS0 : ThS w b o0 xs ⟨4, 0, 0, 0, 0, pa, pc, 0, 0, 0⟩ ⟨false, j, en, r⟩ (((w.alloc (.cells #[.bool false, .int .i64 j, .bool (en 0), .bool (en 1), .bool (en 2), .bool (en 3), .bool (en 4), .bool (en 5), .bool (en 6), .bool (en 7), .bool (en 8), .bool (en 9), .bool r] 49)).alloc (.cells #[.bool false, .int .i64 0, .bool false, .bool false, .bool false, .bool false, .bool false, .bool false, .bool false, .bool false, .bool false, .bool false, .bool false] 49)).alloc (.cells #[.int .i64 4, .int .u64 0, .int .u64 0, .int .u64 0, .int .u64 0, .int .i64 pa, .int .i64 pc, .int .i64 0, .int .i64 0, .int .i64 0] 45)) := ThS.new hw ⟨4, 0, 0, 0, 0, pa, pc, 0, 0, 0⟩ ⟨false, j, en, r⟩ #[.bool false, .int .i64 0, .bool false, .bool false, .bool false, .bool false, .bool false, .bool false, .bool false, .bool false, .bool false, .bool false, .bool false] rfl
    have hU : (thr (decide (n = 1)) a ⟨false, j, en, r⟩).k + c.size ≤ 1000 := by rw [thr_k]; have := T.groups_le a; show j + a.groups + c.size ≤ 1000; omega
    generalize thr (decide (n = 1)) a ⟨false, j, en, r⟩ = U at *
    have IC := fun w' hx => ihc (o + a.size) pc U w' hc1 hpc (by omega) hU hx
    have hus : (thr (decide (n = 1)) c U).cells.size = 13 := rfl
    have hua : (thr (decide (n = 1)) c U).cells.all (·.oneCell') = true := Wk.cells_all _
    generalize (thr (decide (n = 1)) c U).cells = C at *
    have uu : ∃ D, D = U.cells := ⟨_, rfl⟩
    obtain ⟨D, hD⟩ := uu
    rw [← hD] at IA IC
    have IA1 := Lib.hid IA
    have IC1 := Lib.hid IC
    clear IA IC iha ihc hD hU
    simp only [Wk.cells] at IA1
    simp only [Wk.cells]
    have qA : (((w.alloc (.cells #[.bool g, .int .i64 j, .bool (en 0), .bool (en 1), .bool (en 2), .bool (en 3), .bool (en 4), .bool (en 5), .bool (en 6), .bool (en 7), .bool (en 8), .bool (en 9), .bool r] 49)).alloc (.cells #[.bool false, .int .i64 0, .bool false, .bool false, .bool false, .bool false, .bool false, .bool false, .bool false, .bool false, .bool false, .bool false, .bool false] 49)).alloc (.cells #[.int .i64 4, .int .u64 0, .int .u64 0, .int .u64 0, .int .u64 0, .int .i64 pa, .int .i64 pc, .int .i64 0, .int .i64 0, .int .i64 0] 45)).cell? ⟨b, o0 + pa * 10, none⟩ = some (.int .i64 (rk a)) := cell_alloc1 _ (cell_alloc1 _ (cell_alloc1 _ q0))
    have qC : (((w.alloc (.cells #[.bool g, .int .i64 j, .bool (en 0), .bool (en 1), .bool (en 2), .bool (en 3), .bool (en 4), .bool (en 5), .bool (en 6), .bool (en 7), .bool (en 8), .bool (en 9), .bool r] 49)).alloc (.cells #[.bool false, .int .i64 0, .bool false, .bool false, .bool false, .bool false, .bool false, .bool false, .bool false, .bool false, .bool false, .bool false, .bool false] 49)).alloc (.cells #[.int .i64 4, .int .u64 0, .int .u64 0, .int .u64 0, .int .u64 0, .int .i64 pa, .int .i64 pc, .int .i64 0, .int .i64 0, .int .i64 0] 45)).cell? ⟨b, o0 + pc * 10, none⟩ = some (.int .i64 (rk c)) := cell_alloc1 _ (cell_alloc1 _ (cell_alloc1 _ q1))
    have lb2 : b < w.heap.size + 1 := by omega
    have lb3 : b < w.heap.size + 1 + 1 := by omega
    go_enter Tryz.func44, Tryz.ntmps44
    go_wp2_with fail
    refine wp_region_noPanic ?_
    refine wp_region_held_drew (S := ThS w b o0 xs ⟨4, 0, 0, 0, 0, pa, pc, 0, 0, 0⟩ ⟨false, j, en, r⟩) (by kernel_rfl) ?_ (fun hHeld => ?_)
    · (try dsimp only); exact hS0.drew
    refine wpAnyH_take (i := 0) (v := ?_) rfl (by kernel_rfl) (by kernel_rfl) (by kernel_rfl) (fun _ _ _ h => h) (Or.inl ⟨by kernel_rfl, ?_⟩) (by assumption) ?_
    rotate_left
    · (intro w hSw; (try dsimp only at hSw); go_simp); (try with_reducible rfl)
    try simp only [Act.put, List.getElem_toArray, List.getElem_cons_succ, List.getElem_cons_zero, List.setIfInBounds_toArray, List.set_cons_zero, List.set_cons_succ]
    refine wpAnyH_take (i := 1) (v := ?_) rfl (by kernel_rfl) (by kernel_rfl) (by kernel_rfl) (fun _ _ _ h => h) (Or.inl ⟨by kernel_rfl, ?_⟩) (by assumption) ?_
    rotate_left
    · (intro w hSw; (try dsimp only at hSw); go_simp); (try with_reducible rfl)
    try simp only [Act.put, List.getElem_toArray, List.getElem_cons_succ, List.getElem_cons_zero, List.setIfInBounds_toArray, List.set_cons_zero, List.set_cons_succ]
    refine wpAnyH_take (i := 2) (v := ?_) rfl (by kernel_rfl) (by kernel_rfl) (by kernel_rfl) (fun _ _ _ h => h) (Or.inl ⟨by kernel_rfl, ?_⟩) (by assumption) ?_
    rotate_left
    · (intro w9 hSw; have z6 : w9.cell? ⟨w.heap.size + 1 + 1, 6, none⟩ = some (.int .i64 pc) := (hSw.ncell 6).trans rfl; go_simp); (try with_reducible rfl)
    try simp only [Act.put, List.getElem_toArray, List.getElem_cons_succ, List.getElem_cons_zero, List.setIfInBounds_toArray, List.set_cons_zero, List.set_cons_succ]
    refine wpAnyH_take (i := 3) (v := ?_) rfl (by kernel_rfl) (by kernel_rfl) (by kernel_rfl) (fun _ _ _ h => h) (Or.inl ⟨by kernel_rfl, ?_⟩) (by assumption) ?_
    rotate_left
    · (intro w hSw; (try dsimp only at hSw); go_simp); (try with_reducible rfl)
    try simp only [Act.put, List.getElem_toArray, List.getElem_cons_succ, List.getElem_cons_zero, List.setIfInBounds_toArray, List.set_cons_zero, List.set_cons_succ]
    refine wpAnyH_take (i := 4) (v := ?_) rfl (by kernel_rfl) (by kernel_rfl) (by kernel_rfl) (fun _ _ _ h => h) (Or.inl ⟨by kernel_rfl, ?_⟩) (by assumption) ?_
    rotate_left
    · (intro w hSw; (try dsimp only at hSw); go_simp); (try with_reducible rfl)
    try simp only [Act.put, List.getElem_toArray, List.getElem_cons_succ, List.getElem_cons_zero, List.setIfInBounds_toArray, List.set_cons_zero, List.set_cons_succ]
    refine wpAnyH_take (i := 5) (v := ?_) rfl (by kernel_rfl) (by kernel_rfl) (by kernel_rfl) (fun _ _ _ h => h) (Or.inl ⟨by kernel_rfl, ?_⟩) (by assumption) ?_
    rotate_left
    · (intro w9 hSw; have z5 : w9.cell? ⟨w.heap.size + 1 + 1, 5, none⟩ = some (.int .i64 pa) := (hSw.ncell 5).trans rfl; go_simp); (try with_reducible rfl)
    try simp only [Act.put, List.getElem_toArray, List.getElem_cons_succ, List.getElem_cons_zero, List.setIfInBounds_toArray, List.set_cons_zero, List.set_cons_succ]
    refine wpAnyH_take (i := 6) (v := ?_) rfl (by kernel_rfl) (by kernel_rfl) (by kernel_rfl) (fun _ _ _ h => h) (Or.inl ⟨by kernel_rfl, ?_⟩) (by assumption) ?_
    rotate_left
    · (intro w9 hSw; have y0 : w9.cell? ⟨w.heap.size, 0, none⟩ = some (.bool false) := (hSw.wb.cell 0).trans rfl; have y1 : w9.cell? ⟨w.heap.size, 1, none⟩ = some (.int .i64 j) := (hSw.wb.cell 1).trans rfl; have y2 : w9.cell? ⟨w.heap.size, 2, none⟩ = some (.bool (en 0)) := (hSw.wb.cell 2).trans rfl; have y3 : w9.cell? ⟨w.heap.size, 3, none⟩ = some (.bool (en 1)) := (hSw.wb.cell 3).trans rfl; have y4 : w9.cell? ⟨w.heap.size, 4, none⟩ = some (.bool (en 2)) := (hSw.wb.cell 4).trans rfl; have y5 : w9.cell? ⟨w.heap.size, 5, none⟩ = some (.bool (en 3)) := (hSw.wb.cell 5).trans rfl; have y6 : w9.cell? ⟨w.heap.size, 6, none⟩ = some (.bool (en 4)) := (hSw.wb.cell 6).trans rfl; have y7 : w9.cell? ⟨w.heap.size, 7, none⟩ = some (.bool (en 5)) := (hSw.wb.cell 7).trans rfl; have y8 : w9.cell? ⟨w.heap.size, 8, none⟩ = some (.bool (en 6)) := (hSw.wb.cell 8).trans rfl; have y9 : w9.cell? ⟨w.heap.size, 9, none⟩ = some (.bool (en 7)) := (hSw.wb.cell 9).trans rfl; have y10 : w9.cell? ⟨w.heap.size, 10, none⟩ = some (.bool (en 8)) := (hSw.wb.cell 10).trans rfl; have y11 : w9.cell? ⟨w.heap.size, 11, none⟩ = some (.bool (en 9)) := (hSw.wb.cell 11).trans rfl; have y12 : w9.cell? ⟨w.heap.size, 12, none⟩ = some (.bool r) := (hSw.wb.cell 12).trans rfl; go_simp); (try with_reducible rfl)
    try simp only [Act.put, List.getElem_toArray, List.getElem_cons_succ, List.getElem_cons_zero, List.setIfInBounds_toArray, List.set_cons_zero, List.set_cons_succ]
    refine wpAnyH_ready (rs := [7]) (by kernel_rfl) (by simp) ?_
    refine AllReadyH.cons rfl (fun K hK => ?_) ?_
    rotate_left
    · exact AllReadyH.nil
    go_simp
    refine (IA1.out _ hHeld.nodes).mono ?_
    rintro e W1 ⟨rfl, hB⟩
    have hS1 := hHeld.step hB
    clear hB hHeld
    refine hK.out _ _ ?_ (fun hHeld => ?_)
    · (try dsimp only); exact hS1
    clear hK K
    try simp only [Act.put, List.getElem_toArray, List.getElem_cons_succ, List.getElem_cons_zero, List.setIfInBounds_toArray, List.set_cons_zero, List.set_cons_succ]
    refine wpAnyH_ready (rs := [8]) (by kernel_rfl) (by simp) ?_
    refine AllReadyH.cons rfl (fun K hK => ?_) ?_
    rotate_left
    · exact AllReadyH.nil
    go_simp
    refine (IC1.out _ hHeld.nodes).mono ?_
    rintro e W2 ⟨rfl, hB⟩
    have hS2 := hHeld.step hB
    clear hB hHeld
    refine hK.out _ _ ?_ (fun hHeld => ?_)
    · (try dsimp only); exact hS2
    clear hK K
    try simp only [Act.put, List.getElem_toArray, List.getElem_cons_succ, List.getElem_cons_zero, List.setIfInBounds_toArray, List.set_cons_zero, List.set_cons_succ]
    obtain ⟨v1, hv1, hz1⟩ := hS2.rb
    have hst := hv1.storeC hz1 C hus hua
    have hput := hv1.put C
    have hS3 := hS2.put lb C hus
    refine wpAnyH_ready (rs := [9]) (by kernel_rfl) (by simp) ?_
    refine AllReadyH.cons rfl (fun K hK => ?_) ?_
    rotate_left
    · exact AllReadyH.nil
    go_simp
    refine hK.out _ _ ?_ (fun hHeld => ?_)
    · (try dsimp only); exact hS3
    clear hK K
    try simp only [Act.put, List.getElem_toArray, List.getElem_cons_succ, List.getElem_cons_zero, List.setIfInBounds_toArray, List.set_cons_zero, List.set_cons_succ]
    refine wpAnyH_done (by kernel_rfl) ?_ _
    refine NoPanic.normal ?_
    go_wp2
    have ql := hput.load hus
    refine bodyPost_ret (v := .agg C) (by simp [results, Tryz.results44, asAddr, Result.andThen, ql]) rfl ⟨rfl, hS3.b⟩
  have f5 : (rk a == 5) = false := by rw [beq_eq_false_iff_ne]; exact k5
  by_cases k6 : rk c = 5
  · have f6 : (rk c == 5) = true := by simp [k6]
    rw [show okTwo 4 a c = false by rw [ek]; simp [k6], Bool.and_false]
    clear ek
    have IA := fun w' hx => iha o pa ⟨false, j, en, r⟩ w' ha1 hpa (by omega) (by show j + a.size ≤ 1000; omega) hx
    have hS0 : ThS w b o0 xs ⟨4, 0, 0, 0, 0, pa, pc, 0, 0, 0⟩ ⟨false, j, en, r⟩ (((w.alloc (.cells #[.bool false, .int .i64 j, .bool (en 0), .bool (en 1), .bool (en 2), .bool (en 3), .bool (en 4), .bool (en 5), .bool (en 6), .bool (en 7), .bool (en 8), .bool (en 9), .bool r] 49)).alloc (.cells #[.bool false, .int .i64 0, .bool false, .bool false, .bool false, .bool false, .bool false, .bool false, .bool false, .bool false, .bool false, .bool false, .bool false] 49)).alloc (.cells #[.int .i64 4, .int .u64 0, .int .u64 0, .int .u64 0, .int .u64 0, .int .i64 pa, .int .i64 pc, .int .i64 0, .int .i64 0, .int .i64 0] 45)) := ThS.new hw ⟨4, 0, 0, 0, 0, pa, pc, 0, 0, 0⟩ ⟨false, j, en, r⟩ #[.bool false, .int .i64 0, .bool false, .bool false, .bool false, .bool false, .bool false, .bool false, .bool false, .bool false, .bool false, .bool false, .bool false] rfl
    have hU : (thr (decide (n = 1)) a ⟨false, j, en, r⟩).k + c.size ≤ 1000 := by rw [thr_k]; have := T.groups_le a; show j + a.groups + c.size ≤ 1000; omega
    generalize thr (decide (n = 1)) a ⟨false, j, en, r⟩ = U at *
    have IC := fun w' hx => ihc (o + a.size) pc U w' hc1 hpc (by omega) hU hx
    have hus : (thr (decide (n = 1)) c U).cells.size = 13 := rfl
    have hua : (thr (decide (n = 1)) c U).cells.all (·.oneCell') = true := Wk.cells_all _
    generalize (thr (decide (n = 1)) c U).cells = C at *
    have uu : ∃ D, D = U.cells := ⟨_, rfl⟩
    obtain ⟨D, hD⟩ := uu
    rw [← hD] at IA IC
    have IA1 := Lib.hid IA
    have IC1 := Lib.hid IC
    clear IA IC iha ihc hD hU
    simp only [Wk.cells] at IA1
    simp only [Wk.cells]
    have qA : (((w.alloc (.cells #[.bool g, .int .i64 j, .bool (en 0), .bool (en 1), .bool (en 2), .bool (en 3), .bool (en 4), .bool (en 5), .bool (en 6), .bool (en 7), .bool (en 8), .bool (en 9), .bool r] 49)).alloc (.cells #[.bool false, .int .i64 0, .bool false, .bool false, .bool false, .bool false, .bool false, .bool false, .bool false, .bool false, .bool false, .bool false, .bool false] 49)).alloc (.cells #[.int .i64 4, .int .u64 0, .int .u64 0, .int .u64 0, .int .u64 0, .int .i64 pa, .int .i64 pc, .int .i64 0, .int .i64 0, .int .i64 0] 45)).cell? ⟨b, o0 + pa * 10, none⟩ = some (.int .i64 (rk a)) := cell_alloc1 _ (cell_alloc1 _ (cell_alloc1 _ q0))
    have qC : (((w.alloc (.cells #[.bool g, .int .i64 j, .bool (en 0), .bool (en 1), .bool (en 2), .bool (en 3), .bool (en 4), .bool (en 5), .bool (en 6), .bool (en 7), .bool (en 8), .bool (en 9), .bool r] 49)).alloc (.cells #[.bool false, .int .i64 0, .bool false, .bool false, .bool false, .bool false, .bool false, .bool false, .bool false, .bool false, .bool false, .bool false, .bool false] 49)).alloc (.cells #[.int .i64 4, .int .u64 0, .int .u64 0, .int .u64 0, .int .u64 0, .int .i64 pa, .int .i64 pc, .int .i64 0, .int .i64 0, .int .i64 0] 45)).cell? ⟨b, o0 + pc * 10, none⟩ = some (.int .i64 (rk c)) := cell_alloc1 _ (cell_alloc1 _ (cell_alloc1 _ q1))
    have lb2 : b < w.heap.size + 1 := by omega
    have lb3 : b < w.heap.size + 1 + 1 := by omega
    go_enter Tryz.func44, Tryz.ntmps44
    go_wp2_with fail
    refine wp_region_noPanic ?_
    refine wp_region_held_drew (S := ThS w b o0 xs ⟨4, 0, 0, 0, 0, pa, pc, 0, 0, 0⟩ ⟨false, j, en, r⟩) (by kernel_rfl) ?_ (fun hHeld => ?_)
    · (try dsimp only); exact hS0.drew
    refine wpAnyH_take (i := 0) (v := ?_) rfl (by kernel_rfl) (by kernel_rfl) (by kernel_rfl) (fun _ _ _ h => h) (Or.inl ⟨by kernel_rfl, ?_⟩) (by assumption) ?_
    rotate_left
    · (intro w hSw; (try dsimp only at hSw); go_simp); (try with_reducible rfl)
    try simp only [Act.put, List.getElem_toArray, List.getElem_cons_succ, List.getElem_cons_zero, List.setIfInBounds_toArray, List.set_cons_zero, List.set_cons_succ]
    refine wpAnyH_take (i := 1) (v := ?_) rfl (by kernel_rfl) (by kernel_rfl) (by kernel_rfl) (fun _ _ _ h => h) (Or.inl ⟨by kernel_rfl, ?_⟩) (by assumption) ?_
    rotate_left
    · (intro w hSw; (try dsimp only at hSw); go_simp); (try with_reducible rfl)
    try simp only [Act.put, List.getElem_toArray, List.getElem_cons_succ, List.getElem_cons_zero, List.setIfInBounds_toArray, List.set_cons_zero, List.set_cons_succ]
    refine wpAnyH_take (i := 2) (v := ?_) rfl (by kernel_rfl) (by kernel_rfl) (by kernel_rfl) (fun _ _ _ h => h) (Or.inl ⟨by kernel_rfl, ?_⟩) (by assumption) ?_
    rotate_left
    · (intro w9 hSw; have z6 : w9.cell? ⟨w.heap.size + 1 + 1, 6, none⟩ = some (.int .i64 pc) := (hSw.ncell 6).trans rfl; go_simp); (try with_reducible rfl)
    try simp only [Act.put, List.getElem_toArray, List.getElem_cons_succ, List.getElem_cons_zero, List.setIfInBounds_toArray, List.set_cons_zero, List.set_cons_succ]
    refine wpAnyH_take (i := 3) (v := ?_) rfl (by kernel_rfl) (by kernel_rfl) (by kernel_rfl) (fun _ _ _ h => h) (Or.inl ⟨by kernel_rfl, ?_⟩) (by assumption) ?_
    rotate_left
    · (intro w hSw; (try dsimp only at hSw); go_simp); (try with_reducible rfl)
    try simp only [Act.put, List.getElem_toArray, List.getElem_cons_succ, List.getElem_cons_zero, List.setIfInBounds_toArray, List.set_cons_zero, List.set_cons_succ]
    refine wpAnyH_take (i := 4) (v := ?_) rfl (by kernel_rfl) (by kernel_rfl) (by kernel_rfl) (fun _ _ _ h => h) (Or.inl ⟨by kernel_rfl, ?_⟩) (by assumption) ?_
    rotate_left
    · (intro w hSw; (try dsimp only at hSw); go_simp); (try with_reducible rfl)
    try simp only [Act.put, List.getElem_toArray, List.getElem_cons_succ, List.getElem_cons_zero, List.setIfInBounds_toArray, List.set_cons_zero, List.set_cons_succ]
    refine wpAnyH_take (i := 5) (v := ?_) rfl (by kernel_rfl) (by kernel_rfl) (by kernel_rfl) (fun _ _ _ h => h) (Or.inl ⟨by kernel_rfl, ?_⟩) (by assumption) ?_
    rotate_left
    · (intro w9 hSw; have z5 : w9.cell? ⟨w.heap.size + 1 + 1, 5, none⟩ = some (.int .i64 pa) := (hSw.ncell 5).trans rfl; go_simp); (try with_reducible rfl)
    try simp only [Act.put, List.getElem_toArray, List.getElem_cons_succ, List.getElem_cons_zero, List.setIfInBounds_toArray, List.set_cons_zero, List.set_cons_succ]
    refine wpAnyH_take (i := 6) (v := ?_) rfl (by kernel_rfl) (by kernel_rfl) (by kernel_rfl) (fun _ _ _ h => h) (Or.inl ⟨by kernel_rfl, ?_⟩) (by assumption) ?_
    rotate_left
    · (intro w9 hSw; have y0 : w9.cell? ⟨w.heap.size, 0, none⟩ = some (.bool false) := (hSw.wb.cell 0).trans rfl; have y1 : w9.cell? ⟨w.heap.size, 1, none⟩ = some (.int .i64 j) := (hSw.wb.cell 1).trans rfl; have y2 : w9.cell? ⟨w.heap.size, 2, none⟩ = some (.bool (en 0)) := (hSw.wb.cell 2).trans rfl; have y3 : w9.cell? ⟨w.heap.size, 3, none⟩ = some (.bool (en 1)) := (hSw.wb.cell 3).trans rfl; have y4 : w9.cell? ⟨w.heap.size, 4, none⟩ = some (.bool (en 2)) := (hSw.wb.cell 4).trans rfl; have y5 : w9.cell? ⟨w.heap.size, 5, none⟩ = some (.bool (en 3)) := (hSw.wb.cell 5).trans rfl; have y6 : w9.cell? ⟨w.heap.size, 6, none⟩ = some (.bool (en 4)) := (hSw.wb.cell 6).trans rfl; have y7 : w9.cell? ⟨w.heap.size, 7, none⟩ = some (.bool (en 5)) := (hSw.wb.cell 7).trans rfl; have y8 : w9.cell? ⟨w.heap.size, 8, none⟩ = some (.bool (en 6)) := (hSw.wb.cell 8).trans rfl; have y9 : w9.cell? ⟨w.heap.size, 9, none⟩ = some (.bool (en 7)) := (hSw.wb.cell 9).trans rfl; have y10 : w9.cell? ⟨w.heap.size, 10, none⟩ = some (.bool (en 8)) := (hSw.wb.cell 10).trans rfl; have y11 : w9.cell? ⟨w.heap.size, 11, none⟩ = some (.bool (en 9)) := (hSw.wb.cell 11).trans rfl; have y12 : w9.cell? ⟨w.heap.size, 12, none⟩ = some (.bool r) := (hSw.wb.cell 12).trans rfl; go_simp); (try with_reducible rfl)
    try simp only [Act.put, List.getElem_toArray, List.getElem_cons_succ, List.getElem_cons_zero, List.setIfInBounds_toArray, List.set_cons_zero, List.set_cons_succ]
    refine wpAnyH_ready (rs := [7]) (by kernel_rfl) (by simp) ?_
    refine AllReadyH.cons rfl (fun K hK => ?_) ?_
    rotate_left
    · exact AllReadyH.nil
    go_simp
    refine (IA1.out _ hHeld.nodes).mono ?_
    rintro e W1 ⟨rfl, hB⟩
    have hS1 := hHeld.step hB
    clear hB hHeld
    refine hK.out _ _ ?_ (fun hHeld => ?_)
    · (try dsimp only); exact hS1
    clear hK K
    try simp only [Act.put, List.getElem_toArray, List.getElem_cons_succ, List.getElem_cons_zero, List.setIfInBounds_toArray, List.set_cons_zero, List.set_cons_succ]
    refine wpAnyH_ready (rs := [8]) (by kernel_rfl) (by simp) ?_
    refine AllReadyH.cons rfl (fun K hK => ?_) ?_
    rotate_left
    · exact AllReadyH.nil
    go_simp
    refine (IC1.out _ hHeld.nodes).mono ?_
    rintro e W2 ⟨rfl, hB⟩
    have hS2 := hHeld.step hB
    clear hB hHeld
    refine hK.out _ _ ?_ (fun hHeld => ?_)
    · (try dsimp only); exact hS2
    clear hK K
    try simp only [Act.put, List.getElem_toArray, List.getElem_cons_succ, List.getElem_cons_zero, List.setIfInBounds_toArray, List.set_cons_zero, List.set_cons_succ]
    obtain ⟨v1, hv1, hz1⟩ := hS2.rb
    have hst := hv1.storeC hz1 C hus hua
    have hput := hv1.put C
    have hS3 := hS2.put lb C hus
    refine wpAnyH_ready (rs := [9]) (by kernel_rfl) (by simp) ?_
    refine AllReadyH.cons rfl (fun K hK => ?_) ?_
    rotate_left
    · exact AllReadyH.nil
    go_simp
    refine hK.out _ _ ?_ (fun hHeld => ?_)
    · (try dsimp only); exact hS3
    clear hK K
    try simp only [Act.put, List.getElem_toArray, List.getElem_cons_succ, List.getElem_cons_zero, List.setIfInBounds_toArray, List.set_cons_zero, List.set_cons_succ]
    refine wpAnyH_done (by kernel_rfl) ?_ _
    refine NoPanic.normal ?_
    go_wp2
    have ql := hput.load hus
    refine bodyPost_ret (v := .agg C) (by simp [results, Tryz.results44, asAddr, Result.andThen, ql]) rfl ⟨rfl, hS3.b⟩
  · have f6 : (rk c == 5) = false := by rw [beq_eq_false_iff_ne]; exact k6
    rw [show okTwo 4 a c = true by rw [ek]; simp [k4, k5, k6], Bool.and_true]
    clear ek
    have IA := fun w' hx => iha o pa ⟨g, j, en, r⟩ w' ha1 hpa (by omega) (by show j + a.size ≤ 1000; omega) hx
    have hS0 : ThS w b o0 xs ⟨4, 0, 0, 0, 0, pa, pc, 0, 0, 0⟩ ⟨g, j, en, r⟩ (((w.alloc (.cells #[.bool g, .int .i64 j, .bool (en 0), .bool (en 1), .bool (en 2), .bool (en 3), .bool (en 4), .bool (en 5), .bool (en 6), .bool (en 7), .bool (en 8), .bool (en 9), .bool r] 49)).alloc (.cells #[.bool false, .int .i64 0, .bool false, .bool false, .bool false, .bool false, .bool false, .bool false, .bool false, .bool false, .bool false, .bool false, .bool false] 49)).alloc (.cells #[.int .i64 4, .int .u64 0, .int .u64 0, .int .u64 0, .int .u64 0, .int .i64 pa, .int .i64 pc, .int .i64 0, .int .i64 0, .int .i64 0] 45)) := ThS.new hw ⟨4, 0, 0, 0, 0, pa, pc, 0, 0, 0⟩ ⟨g, j, en, r⟩ #[.bool false, .int .i64 0, .bool false, .bool false, .bool false, .bool false, .bool false, .bool false, .bool false, .bool false, .bool false, .bool false, .bool false] rfl
    have hU : (thr (decide (n = 1)) a ⟨g, j, en, r⟩).k + c.size ≤ 1000 := by rw [thr_k]; have := T.groups_le a; show j + a.groups + c.size ≤ 1000; omega
    generalize thr (decide (n = 1)) a ⟨g, j, en, r⟩ = U at *
    have IC := fun w' hx => ihc (o + a.size) pc U w' hc1 hpc (by omega) hU hx
    have hus : (thr (decide (n = 1)) c U).cells.size = 13 := rfl
    have hua : (thr (decide (n = 1)) c U).cells.all (·.oneCell') = true := Wk.cells_all _
    generalize (thr (decide (n = 1)) c U).cells = C at *
    have uu : ∃ D, D = U.cells := ⟨_, rfl⟩
    obtain ⟨D, hD⟩ := uu
    rw [← hD] at IA IC
    have IA1 := Lib.hid IA
    have IC1 := Lib.hid IC
    clear IA IC iha ihc hD hU
    simp only [Wk.cells] at IA1
    simp only [Wk.cells]
    have qA : (((w.alloc (.cells #[.bool g, .int .i64 j, .bool (en 0), .bool (en 1), .bool (en 2), .bool (en 3), .bool (en 4), .bool (en 5), .bool (en 6), .bool (en 7), .bool (en 8), .bool (en 9), .bool r] 49)).alloc (.cells #[.bool false, .int .i64 0, .bool false, .bool false, .bool false, .bool false, .bool false, .bool false, .bool false, .bool false, .bool false, .bool false, .bool false] 49)).alloc (.cells #[.int .i64 4, .int .u64 0, .int .u64 0, .int .u64 0, .int .u64 0, .int .i64 pa, .int .i64 pc, .int .i64 0, .int .i64 0, .int .i64 0] 45)).cell? ⟨b, o0 + pa * 10, none⟩ = some (.int .i64 (rk a)) := cell_alloc1 _ (cell_alloc1 _ (cell_alloc1 _ q0))
    have qC : (((w.alloc (.cells #[.bool g, .int .i64 j, .bool (en 0), .bool (en 1), .bool (en 2), .bool (en 3), .bool (en 4), .bool (en 5), .bool (en 6), .bool (en 7), .bool (en 8), .bool (en 9), .bool r] 49)).alloc (.cells #[.bool false, .int .i64 0, .bool false, .bool false, .bool false, .bool false, .bool false, .bool false, .bool false, .bool false, .bool false, .bool false, .bool false] 49)).alloc (.cells #[.int .i64 4, .int .u64 0, .int .u64 0, .int .u64 0, .int .u64 0, .int .i64 pa, .int .i64 pc, .int .i64 0, .int .i64 0, .int .i64 0] 45)).cell? ⟨b, o0 + pc * 10, none⟩ = some (.int .i64 (rk c)) := cell_alloc1 _ (cell_alloc1 _ (cell_alloc1 _ q1))
    have lb2 : b < w.heap.size + 1 := by omega
    have lb3 : b < w.heap.size + 1 + 1 := by omega
    go_enter Tryz.func44, Tryz.ntmps44
    go_wp2_with fail
    refine wp_region_noPanic ?_
    refine wp_region_held_drew (S := ThS w b o0 xs ⟨4, 0, 0, 0, 0, pa, pc, 0, 0, 0⟩ ⟨g, j, en, r⟩) (by kernel_rfl) ?_ (fun hHeld => ?_)
    · (try dsimp only); exact hS0.drew
    refine wpAnyH_take (i := 0) (v := ?_) rfl (by kernel_rfl) (by kernel_rfl) (by kernel_rfl) (fun _ _ _ h => h) (Or.inl ⟨by kernel_rfl, ?_⟩) (by assumption) ?_
    rotate_left
    · (intro w hSw; (try dsimp only at hSw); go_simp); (try with_reducible rfl)
    try simp only [Act.put, List.getElem_toArray, List.getElem_cons_succ, List.getElem_cons_zero, List.setIfInBounds_toArray, List.set_cons_zero, List.set_cons_succ]
    refine wpAnyH_take (i := 1) (v := ?_) rfl (by kernel_rfl) (by kernel_rfl) (by kernel_rfl) (fun _ _ _ h => h) (Or.inl ⟨by kernel_rfl, ?_⟩) (by assumption) ?_
    rotate_left
    · (intro w hSw; (try dsimp only at hSw); go_simp); (try with_reducible rfl)
    try simp only [Act.put, List.getElem_toArray, List.getElem_cons_succ, List.getElem_cons_zero, List.setIfInBounds_toArray, List.set_cons_zero, List.set_cons_succ]
    refine wpAnyH_take (i := 2) (v := ?_) rfl (by kernel_rfl) (by kernel_rfl) (by kernel_rfl) (fun _ _ _ h => h) (Or.inl ⟨by kernel_rfl, ?_⟩) (by assumption) ?_
    rotate_left
    · (intro w9 hSw; have z6 : w9.cell? ⟨w.heap.size + 1 + 1, 6, none⟩ = some (.int .i64 pc) := (hSw.ncell 6).trans rfl; go_simp); (try with_reducible rfl)
    try simp only [Act.put, List.getElem_toArray, List.getElem_cons_succ, List.getElem_cons_zero, List.setIfInBounds_toArray, List.set_cons_zero, List.set_cons_succ]
    refine wpAnyH_take (i := 3) (v := ?_) rfl (by kernel_rfl) (by kernel_rfl) (by kernel_rfl) (fun _ _ _ h => h) (Or.inl ⟨by kernel_rfl, ?_⟩) (by assumption) ?_
    rotate_left
    · (intro w hSw; (try dsimp only at hSw); go_simp); (try with_reducible rfl)
    try simp only [Act.put, List.getElem_toArray, List.getElem_cons_succ, List.getElem_cons_zero, List.setIfInBounds_toArray, List.set_cons_zero, List.set_cons_succ]
    refine wpAnyH_take (i := 4) (v := ?_) rfl (by kernel_rfl) (by kernel_rfl) (by kernel_rfl) (fun _ _ _ h => h) (Or.inl ⟨by kernel_rfl, ?_⟩) (by assumption) ?_
    rotate_left
    · (intro w hSw; (try dsimp only at hSw); go_simp); (try with_reducible rfl)
    try simp only [Act.put, List.getElem_toArray, List.getElem_cons_succ, List.getElem_cons_zero, List.setIfInBounds_toArray, List.set_cons_zero, List.set_cons_succ]
    refine wpAnyH_take (i := 5) (v := ?_) rfl (by kernel_rfl) (by kernel_rfl) (by kernel_rfl) (fun _ _ _ h => h) (Or.inl ⟨by kernel_rfl, ?_⟩) (by assumption) ?_
    rotate_left
    · (intro w9 hSw; have z5 : w9.cell? ⟨w.heap.size + 1 + 1, 5, none⟩ = some (.int .i64 pa) := (hSw.ncell 5).trans rfl; go_simp); (try with_reducible rfl)
    try simp only [Act.put, List.getElem_toArray, List.getElem_cons_succ, List.getElem_cons_zero, List.setIfInBounds_toArray, List.set_cons_zero, List.set_cons_succ]
    refine wpAnyH_take (i := 6) (v := ?_) rfl (by kernel_rfl) (by kernel_rfl) (by kernel_rfl) (fun _ _ _ h => h) (Or.inl ⟨by kernel_rfl, ?_⟩) (by assumption) ?_
    rotate_left
    · (intro w9 hSw; have y0 : w9.cell? ⟨w.heap.size, 0, none⟩ = some (.bool g) := (hSw.wb.cell 0).trans rfl; have y1 : w9.cell? ⟨w.heap.size, 1, none⟩ = some (.int .i64 j) := (hSw.wb.cell 1).trans rfl; have y2 : w9.cell? ⟨w.heap.size, 2, none⟩ = some (.bool (en 0)) := (hSw.wb.cell 2).trans rfl; have y3 : w9.cell? ⟨w.heap.size, 3, none⟩ = some (.bool (en 1)) := (hSw.wb.cell 3).trans rfl; have y4 : w9.cell? ⟨w.heap.size, 4, none⟩ = some (.bool (en 2)) := (hSw.wb.cell 4).trans rfl; have y5 : w9.cell? ⟨w.heap.size, 5, none⟩ = some (.bool (en 3)) := (hSw.wb.cell 5).trans rfl; have y6 : w9.cell? ⟨w.heap.size, 6, none⟩ = some (.bool (en 4)) := (hSw.wb.cell 6).trans rfl; have y7 : w9.cell? ⟨w.heap.size, 7, none⟩ = some (.bool (en 5)) := (hSw.wb.cell 7).trans rfl; have y8 : w9.cell? ⟨w.heap.size, 8, none⟩ = some (.bool (en 6)) := (hSw.wb.cell 8).trans rfl; have y9 : w9.cell? ⟨w.heap.size, 9, none⟩ = some (.bool (en 7)) := (hSw.wb.cell 9).trans rfl; have y10 : w9.cell? ⟨w.heap.size, 10, none⟩ = some (.bool (en 8)) := (hSw.wb.cell 10).trans rfl; have y11 : w9.cell? ⟨w.heap.size, 11, none⟩ = some (.bool (en 9)) := (hSw.wb.cell 11).trans rfl; have y12 : w9.cell? ⟨w.heap.size, 12, none⟩ = some (.bool r) := (hSw.wb.cell 12).trans rfl; go_simp); (try with_reducible rfl)
    try simp only [Act.put, List.getElem_toArray, List.getElem_cons_succ, List.getElem_cons_zero, List.setIfInBounds_toArray, List.set_cons_zero, List.set_cons_succ]
    refine wpAnyH_ready (rs := [7]) (by kernel_rfl) (by simp) ?_
    refine AllReadyH.cons rfl (fun K hK => ?_) ?_
    rotate_left
    · exact AllReadyH.nil
    go_simp
    refine (IA1.out _ hHeld.nodes).mono ?_
    rintro e W1 ⟨rfl, hB⟩
    have hS1 := hHeld.step hB
    clear hB hHeld
    refine hK.out _ _ ?_ (fun hHeld => ?_)
    · (try dsimp only); exact hS1
    clear hK K
    try simp only [Act.put, List.getElem_toArray, List.getElem_cons_succ, List.getElem_cons_zero, List.setIfInBounds_toArray, List.set_cons_zero, List.set_cons_succ]
    refine wpAnyH_ready (rs := [8]) (by kernel_rfl) (by simp) ?_
    refine AllReadyH.cons rfl (fun K hK => ?_) ?_
    rotate_left
    · exact AllReadyH.nil
    go_simp
    refine (IC1.out _ hHeld.nodes).mono ?_
    rintro e W2 ⟨rfl, hB⟩
    have hS2 := hHeld.step hB
    clear hB hHeld
    refine hK.out _ _ ?_ (fun hHeld => ?_)
    · (try dsimp only); exact hS2
    clear hK K
    try simp only [Act.put, List.getElem_toArray, List.getElem_cons_succ, List.getElem_cons_zero, List.setIfInBounds_toArray, List.set_cons_zero, List.set_cons_succ]
    obtain ⟨v1, hv1, hz1⟩ := hS2.rb
    have hst := hv1.storeC hz1 C hus hua
    have hput := hv1.put C
    have hS3 := hS2.put lb C hus
    refine wpAnyH_ready (rs := [9]) (by kernel_rfl) (by simp) ?_
    refine AllReadyH.cons rfl (fun K hK => ?_) ?_
    rotate_left
    · exact AllReadyH.nil
    go_simp
    refine hK.out _ _ ?_ (fun hHeld => ?_)
    · (try dsimp only); exact hS3
    clear hK K
    try simp only [Act.put, List.getElem_toArray, List.getElem_cons_succ, List.getElem_cons_zero, List.setIfInBounds_toArray, List.set_cons_zero, List.set_cons_succ]
    refine wpAnyH_done (by kernel_rfl) ?_ _
    refine NoPanic.normal ?_
    go_wp2
    have ql := hput.load hus
    refine bodyPost_ret (v := .agg C) (by simp [results, Tryz.results44, asAddr, Result.andThen, ql]) rfl ⟨rfl, hS3.b⟩

set_option maxRecDepth 100000 in
set_option maxHeartbeats 8000000 in
theorem thru_two5 (b o0 n cap : Nat) (xs : List Nd) (hlen : xs.length = n) (hn : n ≤ 120) (a c : T) (iha : Thru b o0 n cap xs a) (ihc : Thru b o0 n cap xs c) : Thru b o0 n cap xs (T.two 5 a c) := by
  rintro o k ⟨g, j, en, r⟩ w ha he hk hj hw
  have hr := ha.root
  rw [show o + (T.two 5 a c).size - 1 = k by omega] at hr
  have lb := hw.lt
  have hk1 : (k : Int) < n := by omega
  have ha1 := ha.1
  have hc1 := ha.2.1
  have sa := a.size_pos
  have sc := c.size_pos
  simp only [T.size] at he hj
  simp only [T.root] at hr
  obtain ⟨pa, hpa⟩ : ∃ pa : Nat, o + a.size = pa + 1 := ⟨o + a.size - 1, by omega⟩
  obtain ⟨pc, hpc⟩ : ∃ pc : Nat, o + a.size + c.size = pc + 1 := ⟨o + a.size + c.size - 1, by omega⟩
  rw [show (o : Int) + a.size - 1 = (pa : Int) by omega, show (o : Int) + a.size + c.size - 1 = (pc : Int) by omega] at hr
  have hcell := hw.cell k _ hr
  have d0 : w.cell? ⟨b, o0 + k * 10, none⟩ = some (.int .i64 5) := hcell 0 _ rfl
  have d1 : w.cell? ⟨b, o0 + k * 10 + 1, none⟩ = some (.int .u64 0) := hcell 1 _ rfl
  have d2 : w.cell? ⟨b, o0 + k * 10 + 2, none⟩ = some (.int .u64 0) := hcell 2 _ rfl
  have d3 : w.cell? ⟨b, o0 + k * 10 + 3, none⟩ = some (.int .u64 0) := hcell 3 _ rfl
  have d4 : w.cell? ⟨b, o0 + k * 10 + 4, none⟩ = some (.int .u64 0) := hcell 4 _ rfl
  have d5 : w.cell? ⟨b, o0 + k * 10 + 5, none⟩ = some (.int .i64 pa) := hcell 5 _ rfl
  have d6 : w.cell? ⟨b, o0 + k * 10 + 6, none⟩ = some (.int .i64 pc) := hcell 6 _ rfl
  have d7 : w.cell? ⟨b, o0 + k * 10 + 7, none⟩ = some (.int .i64 0) := hcell 7 _ rfl
  have d8 : w.cell? ⟨b, o0 + k * 10 + 8, none⟩ = some (.int .i64 0) := hcell 8 _ rfl
  have d9 : w.cell? ⟨b, o0 + k * 10 + 9, none⟩ = some (.int .i64 0) := hcell 9 _ rfl
  have hra := ha1.root
  have hrc := hc1.root
  rw [show o + a.size - 1 = pa by omega] at hra
  rw [show o + a.size + c.size - 1 = pc by omega] at hrc
  have q0 : w.cell? ⟨b, o0 + pa * 10, none⟩ = some (.int .i64 (rk a)) := by rw [← rk_root a o]; exact hw.cell pa _ hra 0 _ rfl
  have q1 : w.cell? ⟨b, o0 + pc * 10, none⟩ = some (.int .i64 (rk c)) := by rw [← rk_root c (o + a.size)]; exact hw.cell pc _ hrc 0 _ rfl
  have hpn : (pa : Int) < n := by omega
  have hpm : (pc : Int) < n := by omega
  have et : ∀ S, thr (decide (n = 1)) (T.two 5 a c) S = thr (decide (n = 1)) c (thr (decide (n = 1)) a ⟨S.g && okTwo 5 a c, S.k, S.en, S.r⟩) := fun S => rfl
  rw [et]
  have ek : okTwo 5 a c = !decide (rk a = 5) := rfl
  clear hcell et hr hra hrc
  by_cases k5 : rk a = 5
  · have f5 : (rk a == 5) = true := by simp [k5]
    rw [show okTwo 5 a c = false by rw [ek]; simp [k5], Bool.and_false]
    clear ek
    have IA := fun w' hx => iha o pa ⟨false, j, en, r⟩ w' ha1 hpa (by omega) (by show j + a.size ≤ 1000; omega) hx
    have hS0 : ThS w b o0 xs ⟨5, 0, 0, 0, 0, pa, pc, 0, 0, 0⟩ ⟨false, j, en, r⟩ (((w.alloc (.cells #[.bool false, .int .i64 j, .bool (en 0), .bool (en 1), .bool (en 2), .bool (en 3), .bool (en 4), .bool (en 5), .bool (en 6), .bool (en 7), .bool (en 8), .bool (en 9), .bool r] 49)).alloc (.cells #[.bool false, .int .i64 0, .bool false, .bool false, .bool false, .bool false, .bool false, .bool false, .bool false, .bool false, .bool false, .bool false, .bool false] 49)).alloc (.cells #[.int .i64 5, .int .u64 0, .int .u64 0, .int .u64 0, .int .u64 0, .int .i64 pa, .int .i64 pc, .int .i64 0, .int .i64 0, .int .i64 0] 45)) := ThS.new hw ⟨5, 0, 0, 0, 0, pa, pc, 0, 0, 0⟩ ⟨false, j, en, r⟩ #[.bool false, .int .i64 0, .bool false, .bool false, .bool false, .bool false, .bool false, .bool false, .bool false, .bool false, .bool false, .bool false, .bool false] rfl
    have hU : (thr (decide (n = 1)) a ⟨false, j, en, r⟩).k + c.size ≤ 1000 := by rw [thr_k]; have := T.groups_le a; show j + a.groups + c.size ≤ 1000; omega
    generalize thr (decide (n = 1)) a ⟨false, j, en, r⟩ = U at *
    have IC := fun w' hx => ihc (o + a.size) pc U w' hc1 hpc (by omega) hU hx
    have hus : (thr (decide (n = 1)) c U).cells.size = 13 := rfl
    have hua : (thr (decide (n = 1)) c U).cells.all (·.oneCell') = true := Wk.cells_all _
    generalize (thr (decide (n = 1)) c U).cells = C at *
    have uu : ∃ D, D = U.cells := ⟨_, rfl⟩
    obtain ⟨D, hD⟩ := uu
    rw [← hD] at IA IC
    have IA1 := Lib.hid IA
    have IC1 := Lib.hid IC
    clear IA IC iha ihc hD hU
    simp only [Wk.cells] at IA1
    simp only [Wk.cells]
    have qA : (((w.alloc (.cells #[.bool g, .int .i64 j, .bool (en 0), .bool (en 1), .bool (en 2), .bool (en 3), .bool (en 4), .bool (en 5), .bool (en 6), .bool (en 7), .bool (en 8), .bool (en 9), .bool r] 49)).alloc (.cells #[.bool false, .int .i64 0, .bool false, .bool false, .bool false, .bool false, .bool false, .bool false, .bool false, .bool false, .bool false, .bool false, .bool false] 49)).alloc (.cells #[.int .i64 5, .int .u64 0, .int .u64 0, .int .u64 0, .int .u64 0, .int .i64 pa, .int .i64 pc, .int .i64 0, .int .i64 0, .int .i64 0] 45)).cell? ⟨b, o0 + pa * 10, none⟩ = some (.int .i64 (rk a)) := cell_alloc1 _ (cell_alloc1 _ (cell_alloc1 _ q0))
    have qC : (((w.alloc (.cells #[.bool g, .int .i64 j, .bool (en 0), .bool (en 1), .bool (en 2), .bool (en 3), .bool (en 4), .bool (en 5), .bool (en 6), .bool (en 7), .bool (en 8), .bool (en 9), .bool r] 49)).alloc (.cells #[.bool false, .int .i64 0, .bool false, .bool false, .bool false, .bool false, .bool false, .bool false, .bool false, .bool false, .bool false, .bool false, .bool false] 49)).alloc (.cells #[.int .i64 5, .int .u64 0, .int .u64 0, .int .u64 0, .int .u64 0, .int .i64 pa, .int .i64 pc, .int .i64 0, .int .i64 0, .int .i64 0] 45)).cell? ⟨b, o0 + pc * 10, none⟩ = some (.int .i64 (rk c)) := cell_alloc1 _ (cell_alloc1 _ (cell_alloc1 _ q1))
    have lb2 : b < w.heap.size + 1 := by omega
    have lb3 : b < w.heap.size + 1 + 1 := by omega
    go_enter Tryz.func44, Tryz.ntmps44
    go_wp2_with fail
    refine wp_region_noPanic ?_
    refine wp_region_held_drew (S := ThS w b o0 xs ⟨5, 0, 0, 0, 0, pa, pc, 0, 0, 0⟩ ⟨false, j, en, r⟩) (by kernel_rfl) ?_ (fun hHeld => ?_)
    · (try dsimp only); exact hS0.drew
    refine wpAnyH_take (i := 0) (v := ?_) rfl (by kernel_rfl) (by kernel_rfl) (by kernel_rfl) (fun _ _ _ h => h) (Or.inl ⟨by kernel_rfl, ?_⟩) (by assumption) ?_
    rotate_left
    · (intro w hSw; (try dsimp only at hSw); go_simp); (try with_reducible rfl)
    try simp only [Act.put, List.getElem_toArray, List.getElem_cons_succ, List.getElem_cons_zero, List.setIfInBounds_toArray, List.set_cons_zero, List.set_cons_succ]
    refine wpAnyH_take (i := 1) (v := ?_) rfl (by kernel_rfl) (by kernel_rfl) (by kernel_rfl) (fun _ _ _ h => h) (Or.inl ⟨by kernel_rfl, ?_⟩) (by assumption) ?_
    rotate_left
    · (intro w hSw; (try dsimp only at hSw); go_simp); (try with_reducible rfl)
    try simp only [Act.put, List.getElem_toArray, List.getElem_cons_succ, List.getElem_cons_zero, List.setIfInBounds_toArray, List.set_cons_zero, List.set_cons_succ]
    refine wpAnyH_take (i := 2) (v := ?_) rfl (by kernel_rfl) (by kernel_rfl) (by kernel_rfl) (fun _ _ _ h => h) (Or.inl ⟨by kernel_rfl, ?_⟩) (by assumption) ?_
    rotate_left
    · (intro w9 hSw; have z6 : w9.cell? ⟨w.heap.size + 1 + 1, 6, none⟩ = some (.int .i64 pc) := (hSw.ncell 6).trans rfl; go_simp); (try with_reducible rfl)
    try simp only [Act.put, List.getElem_toArray, List.getElem_cons_succ, List.getElem_cons_zero, List.setIfInBounds_toArray, List.set_cons_zero, List.set_cons_succ]
    refine wpAnyH_take (i := 3) (v := ?_) rfl (by kernel_rfl) (by kernel_rfl) (by kernel_rfl) (fun _ _ _ h => h) (Or.inl ⟨by kernel_rfl, ?_⟩) (by assumption) ?_
    rotate_left
    · (intro w hSw; (try dsimp only at hSw); go_simp); (try with_reducible rfl)
    try simp only [Act.put, List.getElem_toArray, List.getElem_cons_succ, List.getElem_cons_zero, List.setIfInBounds_toArray, List.set_cons_zero, List.set_cons_succ]
    refine wpAnyH_take (i := 4) (v := ?_) rfl (by kernel_rfl) (by kernel_rfl) (by kernel_rfl) (fun _ _ _ h => h) (Or.inl ⟨by kernel_rfl, ?_⟩) (by assumption) ?_
    rotate_left
    · (intro w hSw; (try dsimp only at hSw); go_simp); (try with_reducible rfl)
    try simp only [Act.put, List.getElem_toArray, List.getElem_cons_succ, List.getElem_cons_zero, List.setIfInBounds_toArray, List.set_cons_zero, List.set_cons_succ]
    refine wpAnyH_take (i := 5) (v := ?_) rfl (by kernel_rfl) (by kernel_rfl) (by kernel_rfl) (fun _ _ _ h => h) (Or.inl ⟨by kernel_rfl, ?_⟩) (by assumption) ?_
    rotate_left
    · (intro w9 hSw; have z5 : w9.cell? ⟨w.heap.size + 1 + 1, 5, none⟩ = some (.int .i64 pa) := (hSw.ncell 5).trans rfl; go_simp); (try with_reducible rfl)
    try simp only [Act.put, List.getElem_toArray, List.getElem_cons_succ, List.getElem_cons_zero, List.setIfInBounds_toArray, List.set_cons_zero, List.set_cons_succ]
    refine wpAnyH_take (i := 6) (v := ?_) rfl (by kernel_rfl) (by kernel_rfl) (by kernel_rfl) (fun _ _ _ h => h) (Or.inl ⟨by kernel_rfl, ?_⟩) (by assumption) ?_
    rotate_left
    · (intro w9 hSw; have y0 : w9.cell? ⟨w.heap.size, 0, none⟩ = some (.bool false) := (hSw.wb.cell 0).trans rfl; have y1 : w9.cell? ⟨w.heap.size, 1, none⟩ = some (.int .i64 j) := (hSw.wb.cell 1).trans rfl; have y2 : w9.cell? ⟨w.heap.size, 2, none⟩ = some (.bool (en 0)) := (hSw.wb.cell 2).trans rfl; have y3 : w9.cell? ⟨w.heap.size, 3, none⟩ = some (.bool (en 1)) := (hSw.wb.cell 3).trans rfl; have y4 : w9.cell? ⟨w.heap.size, 4, none⟩ = some (.bool (en 2)) := (hSw.wb.cell 4).trans rfl; have y5 : w9.cell? ⟨w.heap.size, 5, none⟩ = some (.bool (en 3)) := (hSw.wb.cell 5).trans rfl; have y6 : w9.cell? ⟨w.heap.size, 6, none⟩ = some (.bool (en 4)) := (hSw.wb.cell 6).trans rfl; have y7 : w9.cell? ⟨w.heap.size, 7, none⟩ = some (.bool (en 5)) := (hSw.wb.cell 7).trans rfl; have y8 : w9.cell? ⟨w.heap.size, 8, none⟩ = some (.bool (en 6)) := (hSw.wb.cell 8).trans rfl; have y9 : w9.cell? ⟨w.heap.size, 9, none⟩ = some (.bool (en 7)) := (hSw.wb.cell 9).trans rfl; have y10 : w9.cell? ⟨w.heap.size, 10, none⟩ = some (.bool (en 8)) := (hSw.wb.cell 10).trans rfl; have y11 : w9.cell? ⟨w.heap.size, 11, none⟩ = some (.bool (en 9)) := (hSw.wb.cell 11).trans rfl; have y12 : w9.cell? ⟨w.heap.size, 12, none⟩ = some (.bool r) := (hSw.wb.cell 12).trans rfl; go_simp); (try with_reducible rfl)
    try simp only [Act.put, List.getElem_toArray, List.getElem_cons_succ, List.getElem_cons_zero, List.setIfInBounds_toArray, List.set_cons_zero, List.set_cons_succ]
    refine wpAnyH_ready (rs := [7]) (by kernel_rfl) (by simp) ?_
    refine AllReadyH.cons rfl (fun K hK => ?_) ?_
    rotate_left
    · exact AllReadyH.nil
    go_simp
    refine (IA1.out _ hHeld.nodes).mono ?_
    rintro e W1 ⟨rfl, hB⟩
    have hS1 := hHeld.step hB
    clear hB hHeld
    refine hK.out _ _ ?_ (fun hHeld => ?_)
    · (try dsimp only); exact hS1
    clear hK K
    try simp only [Act.put, List.getElem_toArray, List.getElem_cons_succ, List.getElem_cons_zero, List.setIfInBounds_toArray, List.set_cons_zero, List.set_cons_succ]
    refine wpAnyH_ready (rs := [8]) (by kernel_rfl) (by simp) ?_
    refine AllReadyH.cons rfl (fun K hK => ?_) ?_
    rotate_left
    · exact AllReadyH.nil
    go_simp
    refine (IC1.out _ hHeld.nodes).mono ?_
    rintro e W2 ⟨rfl, hB⟩
    have hS2 := hHeld.step hB
    clear hB hHeld
    refine hK.out _ _ ?_ (fun hHeld => ?_)
    · (try dsimp only); exact hS2
    clear hK K
    try simp only [Act.put, List.getElem_toArray, List.getElem_cons_succ, List.getElem_cons_zero, List.setIfInBounds_toArray, List.set_cons_zero, List.set_cons_succ]
    obtain ⟨v1, hv1, hz1⟩ := hS2.rb
    have hst := hv1.storeC hz1 C hus hua
    have hput := hv1.put C
    have hS3 := hS2.put lb C hus
    refine wpAnyH_ready (rs := [9]) (by kernel_rfl) (by simp) ?_
    refine AllReadyH.cons rfl (fun K hK => ?_) ?_
    rotate_left
    · exact AllReadyH.nil
    go_simp
    refine hK.out _ _ ?_ (fun hHeld => ?_)
    · (try dsimp only); exact hS3
    clear hK K
    try simp only [Act.put, List.getElem_toArray, List.getElem_cons_succ, List.getElem_cons_zero, List.setIfInBounds_toArray, List.set_cons_zero, List.set_cons_succ]
    refine wpAnyH_done (by kernel_rfl) ?_ _
    refine NoPanic.normal ?_
    go_wp2
    have ql := hput.load hus
    refine bodyPost_ret (v := .agg C) (by simp [results, Tryz.results44, asAddr, Result.andThen, ql]) rfl ⟨rfl, hS3.b⟩
  · have f5 : (rk a == 5) = false := by rw [beq_eq_false_iff_ne]; exact k5
    rw [show okTwo 5 a c = true by rw [ek]; simp [k5], Bool.and_true]
    clear ek
    have IA := fun w' hx => iha o pa ⟨g, j, en, r⟩ w' ha1 hpa (by omega) (by show j + a.size ≤ 1000; omega) hx
    have hS0 : ThS w b o0 xs ⟨5, 0, 0, 0, 0, pa, pc, 0, 0, 0⟩ ⟨g, j, en, r⟩ (((w.alloc (.cells #[.bool g, .int .i64 j, .bool (en 0), .bool (en 1), .bool (en 2), .bool (en 3), .bool (en 4), .bool (en 5), .bool (en 6), .bool (en 7), .bool (en 8), .bool (en 9), .bool r] 49)).alloc (.cells #[.bool false, .int .i64 0, .bool false, .bool false, .bool false, .bool false, .bool false, .bool false, .bool false, .bool false, .bool false, .bool false, .bool false] 49)).alloc (.cells #[.int .i64 5, .int .u64 0, .int .u64 0, .int .u64 0, .int .u64 0, .int .i64 pa, .int .i64 pc, .int .i64 0, .int .i64 0, .int .i64 0] 45)) := ThS.new hw ⟨5, 0, 0, 0, 0, pa, pc, 0, 0, 0⟩ ⟨g, j, en, r⟩ #[.bool false, .int .i64 0, .bool false, .bool false, .bool false, .bool false, .bool false, .bool false, .bool false, .bool false, .bool false, .bool false, .bool false] rfl
    have hU : (thr (decide (n = 1)) a ⟨g, j, en, r⟩).k + c.size ≤ 1000 := by rw [thr_k]; have := T.groups_le a; show j + a.groups + c.size ≤ 1000; omega
    generalize thr (decide (n = 1)) a ⟨g, j, en, r⟩ = U at *
    have IC := fun w' hx => ihc (o + a.size) pc U w' hc1 hpc (by omega) hU hx
    have hus : (thr (decide (n = 1)) c U).cells.size = 13 := rfl
    have hua : (thr (decide (n = 1)) c U).cells.all (·.oneCell') = true := Wk.cells_all _
    generalize (thr (decide (n = 1)) c U).cells = C at *
    have uu : ∃ D, D = U.cells := ⟨_, rfl⟩
    obtain ⟨D, hD⟩ := uu
    rw [← hD] at IA IC
    have IA1 := Lib.hid IA
    have IC1 := Lib.hid IC
    clear IA IC iha ihc hD hU
    simp only [Wk.cells] at IA1
    simp only [Wk.cells]
    have qA : (((w.alloc (.cells #[.bool g, .int .i64 j, .bool (en 0), .bool (en 1), .bool (en 2), .bool (en 3), .bool (en 4), .bool (en 5), .bool (en 6), .bool (en 7), .bool (en 8), .bool (en 9), .bool r] 49)).alloc (.cells #[.bool false, .int .i64 0, .bool false, .bool false, .bool false, .bool false, .bool false, .bool false, .bool false, .bool false, .bool false, .bool false, .bool false] 49)).alloc (.cells #[.int .i64 5, .int .u64 0, .int .u64 0, .int .u64 0, .int .u64 0, .int .i64 pa, .int .i64 pc, .int .i64 0, .int .i64 0, .int .i64 0] 45)).cell? ⟨b, o0 + pa * 10, none⟩ = some (.int .i64 (rk a)) := cell_alloc1 _ (cell_alloc1 _ (cell_alloc1 _ q0))
    have qC : (((w.alloc (.cells #[.bool g, .int .i64 j, .bool (en 0), .bool (en 1), .bool (en 2), .bool (en 3), .bool (en 4), .bool (en 5), .bool (en 6), .bool (en 7), .bool (en 8), .bool (en 9), .bool r] 49)).alloc (.cells #[.bool false, .int .i64 0, .bool false, .bool false, .bool false, .bool false, .bool false, .bool false, .bool false, .bool false, .bool false, .bool false, .bool false] 49)).alloc (.cells #[.int .i64 5, .int .u64 0, .int .u64 0, .int .u64 0, .int .u64 0, .int .i64 pa, .int .i64 pc, .int .i64 0, .int .i64 0, .int .i64 0] 45)).cell? ⟨b, o0 + pc * 10, none⟩ = some (.int .i64 (rk c)) := cell_alloc1 _ (cell_alloc1 _ (cell_alloc1 _ q1))
    have lb2 : b < w.heap.size + 1 := by omega
    have lb3 : b < w.heap.size + 1 + 1 := by omega
    go_enter Tryz.func44, Tryz.ntmps44
    go_wp2_with fail
    refine wp_region_noPanic ?_
    refine wp_region_held_drew (S := ThS w b o0 xs ⟨5, 0, 0, 0, 0, pa, pc, 0, 0, 0⟩ ⟨g, j, en, r⟩) (by kernel_rfl) ?_ (fun hHeld => ?_)
    · (try dsimp only); exact hS0.drew
    refine wpAnyH_take (i := 0) (v := ?_) rfl (by kernel_rfl) (by kernel_rfl) (by kernel_rfl) (fun _ _ _ h => h) (Or.inl ⟨by kernel_rfl, ?_⟩) (by assumption) ?_
    rotate_left
    · (intro w hSw; (try dsimp only at hSw); go_simp); (try with_reducible rfl)
    try simp only [Act.put, List.getElem_toArray, List.getElem_cons_succ, List.getElem_cons_zero, List.setIfInBounds_toArray, List.set_cons_zero, List.set_cons_succ]
    refine wpAnyH_take (i := 1) (v := ?_) rfl (by kernel_rfl) (by kernel_rfl) (by kernel_rfl) (fun _ _ _ h => h) (Or.inl ⟨by kernel_rfl, ?_⟩) (by assumption) ?_
    rotate_left
    · (intro w hSw; (try dsimp only at hSw); go_simp); (try with_reducible rfl)
    try simp only [Act.put, List.getElem_toArray, List.getElem_cons_succ, List.getElem_cons_zero, List.setIfInBounds_toArray, List.set_cons_zero, List.set_cons_succ]
    refine wpAnyH_take (i := 2) (v := ?_) rfl (by kernel_rfl) (by kernel_rfl) (by kernel_rfl) (fun _ _ _ h => h) (Or.inl ⟨by kernel_rfl, ?_⟩) (by assumption) ?_
    rotate_left
    · (intro w9 hSw; have z6 : w9.cell? ⟨w.heap.size + 1 + 1, 6, none⟩ = some (.int .i64 pc) := (hSw.ncell 6).trans rfl; go_simp); (try with_reducible rfl)
    try simp only [Act.put, List.getElem_toArray, List.getElem_cons_succ, List.getElem_cons_zero, List.setIfInBounds_toArray, List.set_cons_zero, List.set_cons_succ]
    refine wpAnyH_take (i := 3) (v := ?_) rfl (by kernel_rfl) (by kernel_rfl) (by kernel_rfl) (fun _ _ _ h => h) (Or.inl ⟨by kernel_rfl, ?_⟩) (by assumption) ?_
    rotate_left
    · (intro w hSw; (try dsimp only at hSw); go_simp); (try with_reducible rfl)
    try simp only [Act.put, List.getElem_toArray, List.getElem_cons_succ, List.getElem_cons_zero, List.setIfInBounds_toArray, List.set_cons_zero, List.set_cons_succ]
    refine wpAnyH_take (i := 4) (v := ?_) rfl (by kernel_rfl) (by kernel_rfl) (by kernel_rfl) (fun _ _ _ h => h) (Or.inl ⟨by kernel_rfl, ?_⟩) (by assumption) ?_
    rotate_left
    · (intro w hSw; (try dsimp only at hSw); go_simp); (try with_reducible rfl)
    try simp only [Act.put, List.getElem_toArray, List.getElem_cons_succ, List.getElem_cons_zero, List.setIfInBounds_toArray, List.set_cons_zero, List.set_cons_succ]
    refine wpAnyH_take (i := 5) (v := ?_) rfl (by kernel_rfl) (by kernel_rfl) (by kernel_rfl) (fun _ _ _ h => h) (Or.inl ⟨by kernel_rfl, ?_⟩) (by assumption) ?_
    rotate_left
    · (intro w9 hSw; have z5 : w9.cell? ⟨w.heap.size + 1 + 1, 5, none⟩ = some (.int .i64 pa) := (hSw.ncell 5).trans rfl; go_simp); (try with_reducible rfl)
    try simp only [Act.put, List.getElem_toArray, List.getElem_cons_succ, List.getElem_cons_zero, List.setIfInBounds_toArray, List.set_cons_zero, List.set_cons_succ]
    refine wpAnyH_take (i := 6) (v := ?_) rfl (by kernel_rfl) (by kernel_rfl) (by kernel_rfl) (fun _ _ _ h => h) (Or.inl ⟨by kernel_rfl, ?_⟩) (by assumption) ?_
    rotate_left
    · (intro w9 hSw; have y0 : w9.cell? ⟨w.heap.size, 0, none⟩ = some (.bool g) := (hSw.wb.cell 0).trans rfl; have y1 : w9.cell? ⟨w.heap.size, 1, none⟩ = some (.int .i64 j) := (hSw.wb.cell 1).trans rfl; have y2 : w9.cell? ⟨w.heap.size, 2, none⟩ = some (.bool (en 0)) := (hSw.wb.cell 2).trans rfl; have y3 : w9.cell? ⟨w.heap.size, 3, none⟩ = some (.bool (en 1)) := (hSw.wb.cell 3).trans rfl; have y4 : w9.cell? ⟨w.heap.size, 4, none⟩ = some (.bool (en 2)) := (hSw.wb.cell 4).trans rfl; have y5 : w9.cell? ⟨w.heap.size, 5, none⟩ = some (.bool (en 3)) := (hSw.wb.cell 5).trans rfl; have y6 : w9.cell? ⟨w.heap.size, 6, none⟩ = some (.bool (en 4)) := (hSw.wb.cell 6).trans rfl; have y7 : w9.cell? ⟨w.heap.size, 7, none⟩ = some (.bool (en 5)) := (hSw.wb.cell 7).trans rfl; have y8 : w9.cell? ⟨w.heap.size, 8, none⟩ = some (.bool (en 6)) := (hSw.wb.cell 8).trans rfl; have y9 : w9.cell? ⟨w.heap.size, 9, none⟩ = some (.bool (en 7)) := (hSw.wb.cell 9).trans rfl; have y10 : w9.cell? ⟨w.heap.size, 10, none⟩ = some (.bool (en 8)) := (hSw.wb.cell 10).trans rfl; have y11 : w9.cell? ⟨w.heap.size, 11, none⟩ = some (.bool (en 9)) := (hSw.wb.cell 11).trans rfl; have y12 : w9.cell? ⟨w.heap.size, 12, none⟩ = some (.bool r) := (hSw.wb.cell 12).trans rfl; go_simp); (try with_reducible rfl)
    try simp only [Act.put, List.getElem_toArray, List.getElem_cons_succ, List.getElem_cons_zero, List.setIfInBounds_toArray, List.set_cons_zero, List.set_cons_succ]
    refine wpAnyH_ready (rs := [7]) (by kernel_rfl) (by simp) ?_
    refine AllReadyH.cons rfl (fun K hK => ?_) ?_
    rotate_left
    · exact AllReadyH.nil
    go_simp
    refine (IA1.out _ hHeld.nodes).mono ?_
    rintro e W1 ⟨rfl, hB⟩
    have hS1 := hHeld.step hB
    clear hB hHeld
    refine hK.out _ _ ?_ (fun hHeld => ?_)
    · (try dsimp only); exact hS1
    clear hK K
    try simp only [Act.put, List.getElem_toArray, List.getElem_cons_succ, List.getElem_cons_zero, List.setIfInBounds_toArray, List.set_cons_zero, List.set_cons_succ]
    refine wpAnyH_ready (rs := [8]) (by kernel_rfl) (by simp) ?_
    refine AllReadyH.cons rfl (fun K hK => ?_) ?_
    rotate_left
    · exact AllReadyH.nil
    go_simp
    refine (IC1.out _ hHeld.nodes).mono ?_
    rintro e W2 ⟨rfl, hB⟩
    have hS2 := hHeld.step hB
    clear hB hHeld
    refine hK.out _ _ ?_ (fun hHeld => ?_)
    · (try dsimp only); exact hS2
    clear hK K
    try simp only [Act.put, List.getElem_toArray, List.getElem_cons_succ, List.getElem_cons_zero, List.setIfInBounds_toArray, List.set_cons_zero, List.set_cons_succ]
    obtain ⟨v1, hv1, hz1⟩ := hS2.rb
    have hst := hv1.storeC hz1 C hus hua
    have hput := hv1.put C
    have hS3 := hS2.put lb C hus
    refine wpAnyH_ready (rs := [9]) (by kernel_rfl) (by simp) ?_
    refine AllReadyH.cons rfl (fun K hK => ?_) ?_
    rotate_left
    · exact AllReadyH.nil
    go_simp
    refine hK.out _ _ ?_ (fun hHeld => ?_)
    · (try dsimp only); exact hS3
    clear hK K
    try simp only [Act.put, List.getElem_toArray, List.getElem_cons_succ, List.getElem_cons_zero, List.setIfInBounds_toArray, List.set_cons_zero, List.set_cons_succ]
    refine wpAnyH_done (by kernel_rfl) ?_ _
    refine NoPanic.normal ?_
    go_wp2
    have ql := hput.load hus
    refine bodyPost_ret (v := .agg C) (by simp [results, Tryz.results44, asAddr, Result.andThen, ql]) rfl ⟨rfl, hS3.b⟩

end Go.Proofs.YthcgboebmhabeaaGreatDoor
