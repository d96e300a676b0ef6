/- The reference's through. -/
import Derived.Test.YthcgboebmhabeaaGreatDoorZRxRe
import Derived.Deep.RegionHeld3
namespace Go.Proofs.YthcgboebmhabeaaGreatDoor
open Go.RowKit
set_option linter.unusedVariables false
set_option linter.unusedSimpArgs false

/-- What through answers at a tree that ends at k. -/
def Thru (b o0 n cap : Nat) (xs : List Nd) (t : T) : Prop := ∀ (o k : Nat) (S : Wk) (w : World), T.At (fun i => xs[i]?) t o → o + t.size = k + 1 → k < n → S.k + t.size ≤ 1000 → NodesAt w b o0 xs →
  Calls Tryz.prog 44 #[.slice (some ⟨b, o0, none⟩) n cap, .int .i64 (k : Int), .agg S.cells] w fun e w' => e = .returned (.agg (thr (decide (n = 1)) t S).cells) ∧ Below w.heap.size w w'
theorem heap3 (w : World) (o1 o2 o3 : Obj) : (((w.alloc o1).alloc o2).alloc o3).heap[w.heap.size + 1]? = some o2 := by
  rw [heap_alloc_lt _ _ _ (by rw [World.size_alloc, World.size_alloc]; omega)]
  have := heap_new (w.alloc o1) o2
  rw [World.size_alloc] at this
  exact this
theorem below3 (w : World) (o1 o2 o3 : Obj) : Below w.heap.size w (((w.alloc o1).alloc o2).alloc o3) := (((Below.refl _ w).alloc (Nat.le_refl _) _).alloc (by rw [World.size_alloc]; omega) _).alloc (by rw [World.size_alloc, World.size_alloc]; omega) _

/-- What holds while through looks at a node. -/
structure ThS (w : World) (b o : Nat) (xs : List Nd) (x : Nd) (W : Wk) (w' : World) : Prop where
  nodes : NodesAt w' b o xs
  wb : WB w' w.heap.size W.cells
  rb : ∃ v, WB w' (w.heap.size + 1) v ∧ v.size = 13
  nb : w'.heap[w.heap.size + 2]? = some (.cells x.cells 45 (0, 0))
  b : Below w.heap.size w w'
section
variable {w w1 w2 : World} {b o : Nat} {xs : List Nd} {x : Nd} {W : Wk}
theorem ThS.size (h : ThS w b o xs x W w1) : w.heap.size + 3 ≤ w1.heap.size := (Array.getElem?_eq_some_iff.1 h.nb).1
theorem ThS.step (h : ThS w b o xs x W w1) (hB : Below w1.heap.size w1 w2) : ThS w b o xs x W w2 := by
  have hs := h.size
  obtain ⟨v, hv, hz⟩ := h.rb
  exact ⟨h.nodes.below hB h.nodes.lt, h.wb.below hB h.wb.lt, ⟨v, hv.below hB hv.lt, hz⟩, (hB.block _ (by omega)).trans h.nb, h.b.trans (hB.mono h.b.size)⟩
theorem ThS.drew (h : ThS w b o xs x W w1) : ThS w b o xs x W w1.drew := h.step ((Below.refl _ _).drew)
theorem ThS.new (hx : NodesAt w b o xs) (x : Nd) (W : Wk) (v : Array Value) (hv : v.size = 13) : ThS w b o xs x W (((w.alloc (.cells W.cells 49)).alloc (.cells v 49)).alloc (.cells x.cells 45)) := by
  refine ⟨((hx.alloc _).alloc _).alloc _, ⟨?_⟩, ⟨v, ⟨heap3 w _ _ _⟩, hv⟩, ?_, below3 w _ _ _⟩
  · rw [heap_alloc_lt _ _ _ (by rw [World.size_alloc, World.size_alloc]; omega), heap_alloc_lt _ _ _ (by rw [World.size_alloc]; omega)]
    exact heap_new _ _
  · have := heap_new ((w.alloc (.cells W.cells 49)).alloc (.cells v 49)) (.cells x.cells 45)
    rw [World.size_alloc, World.size_alloc] at this
    exact this
theorem ThS.ncell (h : ThS w b o xs x W w1) (j : Nat) : w1.cell? ⟨w.heap.size + 2, j, none⟩ = x.cells[j]? := by rw [cell_of _ _ _ _ h.nb]
end

set_option maxRecDepth 100000 in
set_option maxHeartbeats 8000000 in
theorem thru_leaf1 (b o0 n cap : Nat) (xs : List Nd) (hlen : xs.length = n) (hn : n ≤ 120) (w0 w1 w2 w3 : Nat) (xa xb m M xn : Int) : Thru b o0 n cap xs (T.leaf ⟨1, w0, w1, w2, w3, xa, xb, m, M, xn⟩) := by
  rintro o k ⟨g, j, en, r⟩ w ha he hk hj hw
  have hr := ha.root
  rw [show o + (T.leaf ⟨1, w0, w1, w2, w3, xa, xb, m, M, xn⟩).size - 1 = k by omega] at hr
  have lb := hw.lt
  have hk1 : (k : Int) < n := by omega
  have hcell := hw.cell k _ hr
  have d0 : w.cell? ⟨b, o0 + k * 10, none⟩ = some (.int .i64 1) := hcell 0 _ rfl
  have d1 : w.cell? ⟨b, o0 + k * 10 + 1, none⟩ = some (.int .u64 w0) := hcell 1 _ rfl
  have d2 : w.cell? ⟨b, o0 + k * 10 + 2, none⟩ = some (.int .u64 w1) := hcell 2 _ rfl
  have d3 : w.cell? ⟨b, o0 + k * 10 + 3, none⟩ = some (.int .u64 w2) := hcell 3 _ rfl
  have d4 : w.cell? ⟨b, o0 + k * 10 + 4, none⟩ = some (.int .u64 w3) := hcell 4 _ rfl
  have d5 : w.cell? ⟨b, o0 + k * 10 + 5, none⟩ = some (.int .i64 xa) := hcell 5 _ rfl
  have d6 : w.cell? ⟨b, o0 + k * 10 + 6, none⟩ = some (.int .i64 xb) := hcell 6 _ rfl
  have d7 : w.cell? ⟨b, o0 + k * 10 + 7, none⟩ = some (.int .i64 m) := hcell 7 _ rfl
  have d8 : w.cell? ⟨b, o0 + k * 10 + 8, none⟩ = some (.int .i64 M) := hcell 8 _ rfl
  have d9 : w.cell? ⟨b, o0 + k * 10 + 9, none⟩ = some (.int .i64 xn) := hcell 9 _ rfl
  have et : thr (decide (n = 1)) (T.leaf ⟨1, w0, w1, w2, w3, xa, xb, m, M, xn⟩) ⟨g, j, en, r⟩ = ⟨g, j, en, r⟩ := rfl
  rw [et]
  clear hcell hr ha et
  unfold Wk.cells
  go_enter Tryz.func44, Tryz.ntmps44
  go_wp2
  have ql := (WB.mk (heap3 w (.cells #[.bool g, .int .i64 j, .bool (en 0), .bool (en 1), .bool (en 2), .bool (en 3), .bool (en 4), .bool (en 5), .bool (en 6), .bool (en 7), .bool (en 8), .bool (en 9), .bool r] 49) (.cells #[.bool g, .int .i64 j, .bool (en 0), .bool (en 1), .bool (en 2), .bool (en 3), .bool (en 4), .bool (en 5), .bool (en 6), .bool (en 7), .bool (en 8), .bool (en 9), .bool r] 49) (.cells #[.int .i64 1, .int .u64 w0, .int .u64 w1, .int .u64 w2, .int .u64 w3, .int .i64 xa, .int .i64 xb, .int .i64 m, .int .i64 M, .int .i64 xn] 45))).load rfl
  refine bodyPost_ret (v := .agg #[.bool g, .int .i64 j, .bool (en 0), .bool (en 1), .bool (en 2), .bool (en 3), .bool (en 4), .bool (en 5), .bool (en 6), .bool (en 7), .bool (en 8), .bool (en 9), .bool r]) (by simp [results, Tryz.results44, asAddr, Result.andThen, ql]) rfl ⟨rfl, below3 w _ _ _⟩

set_option maxRecDepth 100000 in
set_option maxHeartbeats 8000000 in
theorem thru_leaf2 (b o0 n cap : Nat) (xs : List Nd) (hlen : xs.length = n) (hn : n ≤ 120) (w0 w1 w2 w3 : Nat) (xa xb m M xn : Int) : Thru b o0 n cap xs (T.leaf ⟨2, w0, w1, w2, w3, xa, xb, m, M, xn⟩) := by
  rintro o k ⟨g, j, en, r⟩ w ha he hk hj hw
  have hr := ha.root
  rw [show o + (T.leaf ⟨2, w0, w1, w2, w3, xa, xb, m, M, xn⟩).size - 1 = k by omega] at hr
  have lb := hw.lt
  have hk1 : (k : Int) < n := by omega
  have hcell := hw.cell k _ hr
  have d0 : w.cell? ⟨b, o0 + k * 10, none⟩ = some (.int .i64 2) := hcell 0 _ rfl
  have d1 : w.cell? ⟨b, o0 + k * 10 + 1, none⟩ = some (.int .u64 w0) := hcell 1 _ rfl
  have d2 : w.cell? ⟨b, o0 + k * 10 + 2, none⟩ = some (.int .u64 w1) := hcell 2 _ rfl
  have d3 : w.cell? ⟨b, o0 + k * 10 + 3, none⟩ = some (.int .u64 w2) := hcell 3 _ rfl
  have d4 : w.cell? ⟨b, o0 + k * 10 + 4, none⟩ = some (.int .u64 w3) := hcell 4 _ rfl
  have d5 : w.cell? ⟨b, o0 + k * 10 + 5, none⟩ = some (.int .i64 xa) := hcell 5 _ rfl
  have d6 : w.cell? ⟨b, o0 + k * 10 + 6, none⟩ = some (.int .i64 xb) := hcell 6 _ rfl
  have d7 : w.cell? ⟨b, o0 + k * 10 + 7, none⟩ = some (.int .i64 m) := hcell 7 _ rfl
  have d8 : w.cell? ⟨b, o0 + k * 10 + 8, none⟩ = some (.int .i64 M) := hcell 8 _ rfl
  have d9 : w.cell? ⟨b, o0 + k * 10 + 9, none⟩ = some (.int .i64 xn) := hcell 9 _ rfl
  have et : thr (decide (n = 1)) (T.leaf ⟨2, w0, w1, w2, w3, xa, xb, m, M, xn⟩) ⟨g, j, en, r⟩ = ⟨g, j, en, r⟩ := rfl
  rw [et]
  clear hcell hr ha et
  unfold Wk.cells
  go_enter Tryz.func44, Tryz.ntmps44
  go_wp2
  have ql := (WB.mk (heap3 w (.cells #[.bool g, .int .i64 j, .bool (en 0), .bool (en 1), .bool (en 2), .bool (en 3), .bool (en 4), .bool (en 5), .bool (en 6), .bool (en 7), .bool (en 8), .bool (en 9), .bool r] 49) (.cells #[.bool g, .int .i64 j, .bool (en 0), .bool (en 1), .bool (en 2), .bool (en 3), .bool (en 4), .bool (en 5), .bool (en 6), .bool (en 7), .bool (en 8), .bool (en 9), .bool r] 49) (.cells #[.int .i64 2, .int .u64 w0, .int .u64 w1, .int .u64 w2, .int .u64 w3, .int .i64 xa, .int .i64 xb, .int .i64 m, .int .i64 M, .int .i64 xn] 45))).load rfl
  refine bodyPost_ret (v := .agg #[.bool g, .int .i64 j, .bool (en 0), .bool (en 1), .bool (en 2), .bool (en 3), .bool (en 4), .bool (en 5), .bool (en 6), .bool (en 7), .bool (en 8), .bool (en 9), .bool r]) (by simp [results, Tryz.results44, asAddr, Result.andThen, ql]) rfl ⟨rfl, below3 w _ _ _⟩

set_option maxRecDepth 100000 in
set_option maxHeartbeats 8000000 in
theorem thru_leaf3 (b o0 n cap : Nat) (xs : List Nd) (hlen : xs.length = n) (hn : n ≤ 120) (w0 w1 w2 w3 : Nat) (xa xb m M xn : Int) : Thru b o0 n cap xs (T.leaf ⟨3, w0, w1, w2, w3, xa, xb, m, M, xn⟩) := by
  rintro o k ⟨g, j, en, r⟩ w ha he hk hj hw
  have hr := ha.root
  rw [show o + (T.leaf ⟨3, w0, w1, w2, w3, xa, xb, m, M, xn⟩).size - 1 = k by omega] at hr
  have lb := hw.lt
  have hk1 : (k : Int) < n := by omega
  have hcell := hw.cell k _ hr
  have d0 : w.cell? ⟨b, o0 + k * 10, none⟩ = some (.int .i64 3) := hcell 0 _ rfl
  have d1 : w.cell? ⟨b, o0 + k * 10 + 1, none⟩ = some (.int .u64 w0) := hcell 1 _ rfl
  have d2 : w.cell? ⟨b, o0 + k * 10 + 2, none⟩ = some (.int .u64 w1) := hcell 2 _ rfl
  have d3 : w.cell? ⟨b, o0 + k * 10 + 3, none⟩ = some (.int .u64 w2) := hcell 3 _ rfl
  have d4 : w.cell? ⟨b, o0 + k * 10 + 4, none⟩ = some (.int .u64 w3) := hcell 4 _ rfl
  have d5 : w.cell? ⟨b, o0 + k * 10 + 5, none⟩ = some (.int .i64 xa) := hcell 5 _ rfl
  have d6 : w.cell? ⟨b, o0 + k * 10 + 6, none⟩ = some (.int .i64 xb) := hcell 6 _ rfl
  have d7 : w.cell? ⟨b, o0 + k * 10 + 7, none⟩ = some (.int .i64 m) := hcell 7 _ rfl
  have d8 : w.cell? ⟨b, o0 + k * 10 + 8, none⟩ = some (.int .i64 M) := hcell 8 _ rfl
  have d9 : w.cell? ⟨b, o0 + k * 10 + 9, none⟩ = some (.int .i64 xn) := hcell 9 _ rfl
  have et : thr (decide (n = 1)) (T.leaf ⟨3, w0, w1, w2, w3, xa, xb, m, M, xn⟩) ⟨g, j, en, r⟩ = ⟨g, j, en, r⟩ := rfl
  rw [et]
  clear hcell hr ha et
  unfold Wk.cells
  go_enter Tryz.func44, Tryz.ntmps44
  go_wp2
  have ql := (WB.mk (heap3 w (.cells #[.bool g, .int .i64 j, .bool (en 0), .bool (en 1), .bool (en 2), .bool (en 3), .bool (en 4), .bool (en 5), .bool (en 6), .bool (en 7), .bool (en 8), .bool (en 9), .bool r] 49) (.cells #[.bool g, .int .i64 j, .bool (en 0), .bool (en 1), .bool (en 2), .bool (en 3), .bool (en 4), .bool (en 5), .bool (en 6), .bool (en 7), .bool (en 8), .bool (en 9), .bool r] 49) (.cells #[.int .i64 3, .int .u64 w0, .int .u64 w1, .int .u64 w2, .int .u64 w3, .int .i64 xa, .int .i64 xb, .int .i64 m, .int .i64 M, .int .i64 xn] 45))).load rfl
  refine bodyPost_ret (v := .agg #[.bool g, .int .i64 j, .bool (en 0), .bool (en 1), .bool (en 2), .bool (en 3), .bool (en 4), .bool (en 5), .bool (en 6), .bool (en 7), .bool (en 8), .bool (en 9), .bool r]) (by simp [results, Tryz.results44, asAddr, Result.andThen, ql]) rfl ⟨rfl, below3 w _ _ _⟩

set_option maxRecDepth 100000 in
set_option maxHeartbeats 8000000 in
theorem thru_leaf0 (b o0 n cap : Nat) (xs : List Nd) (hlen : xs.length = n) (hn : n ≤ 120) (w0 w1 w2 w3 : Nat) (xa xb m M xn : Int) : Thru b o0 n cap xs (T.leaf ⟨0, w0, w1, w2, w3, xa, xb, m, M, xn⟩) := by
  rintro o k ⟨g, j, en, r⟩ w ha he hk hj hw
  have hr := ha.root
  rw [show o + (T.leaf ⟨0, w0, w1, w2, w3, xa, xb, m, M, xn⟩).size - 1 = k by omega] at hr
  have lb := hw.lt
  have hk1 : (k : Int) < n := by omega
  have hcell := hw.cell k _ hr
  have d0 : w.cell? ⟨b, o0 + k * 10, none⟩ = some (.int .i64 0) := hcell 0 _ rfl
  have d1 : w.cell? ⟨b, o0 + k * 10 + 1, none⟩ = some (.int .u64 w0) := hcell 1 _ rfl
  have d2 : w.cell? ⟨b, o0 + k * 10 + 2, none⟩ = some (.int .u64 w1) := hcell 2 _ rfl
  have d3 : w.cell? ⟨b, o0 + k * 10 + 3, none⟩ = some (.int .u64 w2) := hcell 3 _ rfl
  have d4 : w.cell? ⟨b, o0 + k * 10 + 4, none⟩ = some (.int .u64 w3) := hcell 4 _ rfl
  have d5 : w.cell? ⟨b, o0 + k * 10 + 5, none⟩ = some (.int .i64 xa) := hcell 5 _ rfl
  have d6 : w.cell? ⟨b, o0 + k * 10 + 6, none⟩ = some (.int .i64 xb) := hcell 6 _ rfl
  have d7 : w.cell? ⟨b, o0 + k * 10 + 7, none⟩ = some (.int .i64 m) := hcell 7 _ rfl
  have d8 : w.cell? ⟨b, o0 + k * 10 + 8, none⟩ = some (.int .i64 M) := hcell 8 _ rfl
  have d9 : w.cell? ⟨b, o0 + k * 10 + 9, none⟩ = some (.int .i64 xn) := hcell 9 _ rfl
  have et : thr (decide (n = 1)) (T.leaf ⟨0, w0, w1, w2, w3, xa, xb, m, M, xn⟩) ⟨g, j, en, r⟩ = ⟨g && decide (n = 1), j, en, r⟩ := rfl
  rw [et]
  clear hcell hr ha et
  unfold Wk.cells
  by_cases h1 : n = 1
  · have hb : ((n : Int) == 1) = true := by simp; omega
    rw [decide_eq_true h1, Bool.and_true]
    clear h1
    go_enter Tryz.func44, Tryz.ntmps44
    go_wp2
    have ql := (WB.mk (heap3 w (.cells #[.bool g, .int .i64 j, .bool (en 0), .bool (en 1), .bool (en 2), .bool (en 3), .bool (en 4), .bool (en 5), .bool (en 6), .bool (en 7), .bool (en 8), .bool (en 9), .bool r] 49) (.cells #[.bool g, .int .i64 j, .bool (en 0), .bool (en 1), .bool (en 2), .bool (en 3), .bool (en 4), .bool (en 5), .bool (en 6), .bool (en 7), .bool (en 8), .bool (en 9), .bool r] 49) (.cells #[.int .i64 0, .int .u64 w0, .int .u64 w1, .int .u64 w2, .int .u64 w3, .int .i64 xa, .int .i64 xb, .int .i64 m, .int .i64 M, .int .i64 xn] 45))).load rfl
    refine bodyPost_ret (v := .agg #[.bool g, .int .i64 j, .bool (en 0), .bool (en 1), .bool (en 2), .bool (en 3), .bool (en 4), .bool (en 5), .bool (en 6), .bool (en 7), .bool (en 8), .bool (en 9), .bool r]) (by simp [results, Tryz.results44, asAddr, Result.andThen, ql]) rfl ⟨rfl, below3 w _ _ _⟩
  · have hb : ((n : Int) == 1) = false := by rw [beq_eq_false_iff_ne]; omega
    rw [decide_eq_false h1, Bool.and_false]
    clear h1
    go_enter Tryz.func44, Tryz.ntmps44
    go_wp2
    have ql := (WB.mk (heap3 w (.cells #[.bool false, .int .i64 j, .bool (en 0), .bool (en 1), .bool (en 2), .bool (en 3), .bool (en 4), .bool (en 5), .bool (en 6), .bool (en 7), .bool (en 8), .bool (en 9), .bool r] 49) (.cells #[.bool false, .int .i64 j, .bool (en 0), .bool (en 1), .bool (en 2), .bool (en 3), .bool (en 4), .bool (en 5), .bool (en 6), .bool (en 7), .bool (en 8), .bool (en 9), .bool r] 49) (.cells #[.int .i64 0, .int .u64 w0, .int .u64 w1, .int .u64 w2, .int .u64 w3, .int .i64 xa, .int .i64 xb, .int .i64 m, .int .i64 M, .int .i64 xn] 45))).load rfl
    refine bodyPost_ret (v := .agg #[.bool false, .int .i64 j, .bool (en 0), .bool (en 1), .bool (en 2), .bool (en 3), .bool (en 4), .bool (en 5), .bool (en 6), .bool (en 7), .bool (en 8), .bool (en 9), .bool r]) (by simp [results, Tryz.results44, asAddr, Result.andThen, ql]) rfl ⟨rfl, below3 w _ _ _⟩

set_option maxRecDepth 100000 in
set_option maxHeartbeats 8000000 in
theorem thru_leaf8_1 (b o0 n cap : Nat) (xs : List Nd) (hlen : xs.length = n) (hn : n ≤ 120) (w0 w1 w2 w3 : Nat) (xa xb m M : Int) : Thru b o0 n cap xs (T.leaf ⟨8, w0, w1, w2, w3, xa, xb, m, M, 1⟩) := by
  rintro o k ⟨g, j, en, r⟩ w ha he hk hj hw
  have hr := ha.root
  rw [show o + (T.leaf ⟨8, w0, w1, w2, w3, xa, xb, m, M, 1⟩).size - 1 = k by omega] at hr
  have lb := hw.lt
  have hk1 : (k : Int) < n := by omega
  have hcell := hw.cell k _ hr
  have d0 : w.cell? ⟨b, o0 + k * 10, none⟩ = some (.int .i64 8) := hcell 0 _ rfl
  have d1 : w.cell? ⟨b, o0 + k * 10 + 1, none⟩ = some (.int .u64 w0) := hcell 1 _ rfl
  have d2 : w.cell? ⟨b, o0 + k * 10 + 2, none⟩ = some (.int .u64 w1) := hcell 2 _ rfl
  have d3 : w.cell? ⟨b, o0 + k * 10 + 3, none⟩ = some (.int .u64 w2) := hcell 3 _ rfl
  have d4 : w.cell? ⟨b, o0 + k * 10 + 4, none⟩ = some (.int .u64 w3) := hcell 4 _ rfl
  have d5 : w.cell? ⟨b, o0 + k * 10 + 5, none⟩ = some (.int .i64 xa) := hcell 5 _ rfl
  have d6 : w.cell? ⟨b, o0 + k * 10 + 6, none⟩ = some (.int .i64 xb) := hcell 6 _ rfl
  have d7 : w.cell? ⟨b, o0 + k * 10 + 7, none⟩ = some (.int .i64 m) := hcell 7 _ rfl
  have d8 : w.cell? ⟨b, o0 + k * 10 + 8, none⟩ = some (.int .i64 M) := hcell 8 _ rfl
  have d9 : w.cell? ⟨b, o0 + k * 10 + 9, none⟩ = some (.int .i64 1) := hcell 9 _ rfl
  have et : thr (decide (n = 1)) (T.leaf ⟨8, w0, w1, w2, w3, xa, xb, m, M, 1⟩) ⟨g, j, en, r⟩ = ⟨g && en 1, j, en, true⟩ := rfl
  rw [et]
  clear hcell hr ha et
  simp only [Wk.cells]
  generalize en 1 = eN at *
  cases eN
  · rw [Bool.and_false]
    go_enter Tryz.func44, Tryz.ntmps44
    go_wp2
    have ql := (WB.mk (heap3 w (.cells #[.bool false, .int .i64 j, .bool (en 0), .bool (false), .bool (en 2), .bool (en 3), .bool (en 4), .bool (en 5), .bool (en 6), .bool (en 7), .bool (en 8), .bool (en 9), .bool true] 49) (.cells #[.bool false, .int .i64 j, .bool (en 0), .bool (false), .bool (en 2), .bool (en 3), .bool (en 4), .bool (en 5), .bool (en 6), .bool (en 7), .bool (en 8), .bool (en 9), .bool true] 49) (.cells #[.int .i64 8, .int .u64 w0, .int .u64 w1, .int .u64 w2, .int .u64 w3, .int .i64 xa, .int .i64 xb, .int .i64 m, .int .i64 M, .int .i64 1] 45))).load rfl
    refine bodyPost_ret (v := .agg #[.bool false, .int .i64 j, .bool (en 0), .bool (false), .bool (en 2), .bool (en 3), .bool (en 4), .bool (en 5), .bool (en 6), .bool (en 7), .bool (en 8), .bool (en 9), .bool true]) (by simp [results, Tryz.results44, asAddr, Result.andThen, ql]) rfl ⟨rfl, below3 w _ _ _⟩
  · rw [Bool.and_true]
    go_enter Tryz.func44, Tryz.ntmps44
    go_wp2
    have ql := (WB.mk (heap3 w (.cells #[.bool g, .int .i64 j, .bool (en 0), .bool (true), .bool (en 2), .bool (en 3), .bool (en 4), .bool (en 5), .bool (en 6), .bool (en 7), .bool (en 8), .bool (en 9), .bool true] 49) (.cells #[.bool g, .int .i64 j, .bool (en 0), .bool (true), .bool (en 2), .bool (en 3), .bool (en 4), .bool (en 5), .bool (en 6), .bool (en 7), .bool (en 8), .bool (en 9), .bool true] 49) (.cells #[.int .i64 8, .int .u64 w0, .int .u64 w1, .int .u64 w2, .int .u64 w3, .int .i64 xa, .int .i64 xb, .int .i64 m, .int .i64 M, .int .i64 1] 45))).load rfl
    refine bodyPost_ret (v := .agg #[.bool g, .int .i64 j, .bool (en 0), .bool (true), .bool (en 2), .bool (en 3), .bool (en 4), .bool (en 5), .bool (en 6), .bool (en 7), .bool (en 8), .bool (en 9), .bool true]) (by simp [results, Tryz.results44, asAddr, Result.andThen, ql]) rfl ⟨rfl, below3 w _ _ _⟩

set_option maxRecDepth 100000 in
set_option maxHeartbeats 8000000 in
theorem thru_leaf8_2 (b o0 n cap : Nat) (xs : List Nd) (hlen : xs.length = n) (hn : n ≤ 120) (w0 w1 w2 w3 : Nat) (xa xb m M : Int) : Thru b o0 n cap xs (T.leaf ⟨8, w0, w1, w2, w3, xa, xb, m, M, 2⟩) := by
  rintro o k ⟨g, j, en, r⟩ w ha he hk hj hw
  have hr := ha.root
  rw [show o + (T.leaf ⟨8, w0, w1, w2, w3, xa, xb, m, M, 2⟩).size - 1 = k by omega] at hr
  have lb := hw.lt
  have hk1 : (k : Int) < n := by omega
  have hcell := hw.cell k _ hr
  have d0 : w.cell? ⟨b, o0 + k * 10, none⟩ = some (.int .i64 8) := hcell 0 _ rfl
  have d1 : w.cell? ⟨b, o0 + k * 10 + 1, none⟩ = some (.int .u64 w0) := hcell 1 _ rfl
  have d2 : w.cell? ⟨b, o0 + k * 10 + 2, none⟩ = some (.int .u64 w1) := hcell 2 _ rfl
  have d3 : w.cell? ⟨b, o0 + k * 10 + 3, none⟩ = some (.int .u64 w2) := hcell 3 _ rfl
  have d4 : w.cell? ⟨b, o0 + k * 10 + 4, none⟩ = some (.int .u64 w3) := hcell 4 _ rfl
  have d5 : w.cell? ⟨b, o0 + k * 10 + 5, none⟩ = some (.int .i64 xa) := hcell 5 _ rfl
  have d6 : w.cell? ⟨b, o0 + k * 10 + 6, none⟩ = some (.int .i64 xb) := hcell 6 _ rfl
  have d7 : w.cell? ⟨b, o0 + k * 10 + 7, none⟩ = some (.int .i64 m) := hcell 7 _ rfl
  have d8 : w.cell? ⟨b, o0 + k * 10 + 8, none⟩ = some (.int .i64 M) := hcell 8 _ rfl
  have d9 : w.cell? ⟨b, o0 + k * 10 + 9, none⟩ = some (.int .i64 2) := hcell 9 _ rfl
  have et : thr (decide (n = 1)) (T.leaf ⟨8, w0, w1, w2, w3, xa, xb, m, M, 2⟩) ⟨g, j, en, r⟩ = ⟨g && en 2, j, en, true⟩ := rfl
  rw [et]
  clear hcell hr ha et
  simp only [Wk.cells]
  generalize en 2 = eN at *
  cases eN
  · rw [Bool.and_false]
    go_enter Tryz.func44, Tryz.ntmps44
    go_wp2
    have ql := (WB.mk (heap3 w (.cells #[.bool false, .int .i64 j, .bool (en 0), .bool (en 1), .bool (false), .bool (en 3), .bool (en 4), .bool (en 5), .bool (en 6), .bool (en 7), .bool (en 8), .bool (en 9), .bool true] 49) (.cells #[.bool false, .int .i64 j, .bool (en 0), .bool (en 1), .bool (false), .bool (en 3), .bool (en 4), .bool (en 5), .bool (en 6), .bool (en 7), .bool (en 8), .bool (en 9), .bool true] 49) (.cells #[.int .i64 8, .int .u64 w0, .int .u64 w1, .int .u64 w2, .int .u64 w3, .int .i64 xa, .int .i64 xb, .int .i64 m, .int .i64 M, .int .i64 2] 45))).load rfl
    refine bodyPost_ret (v := .agg #[.bool false, .int .i64 j, .bool (en 0), .bool (en 1), .bool (false), .bool (en 3), .bool (en 4), .bool (en 5), .bool (en 6), .bool (en 7), .bool (en 8), .bool (en 9), .bool true]) (by simp [results, Tryz.results44, asAddr, Result.andThen, ql]) rfl ⟨rfl, below3 w _ _ _⟩
  · rw [Bool.and_true]
    go_enter Tryz.func44, Tryz.ntmps44
    go_wp2
    have ql := (WB.mk (heap3 w (.cells #[.bool g, .int .i64 j, .bool (en 0), .bool (en 1), .bool (true), .bool (en 3), .bool (en 4), .bool (en 5), .bool (en 6), .bool (en 7), .bool (en 8), .bool (en 9), .bool true] 49) (.cells #[.bool g, .int .i64 j, .bool (en 0), .bool (en 1), .bool (true), .bool (en 3), .bool (en 4), .bool (en 5), .bool (en 6), .bool (en 7), .bool (en 8), .bool (en 9), .bool true] 49) (.cells #[.int .i64 8, .int .u64 w0, .int .u64 w1, .int .u64 w2, .int .u64 w3, .int .i64 xa, .int .i64 xb, .int .i64 m, .int .i64 M, .int .i64 2] 45))).load rfl
    refine bodyPost_ret (v := .agg #[.bool g, .int .i64 j, .bool (en 0), .bool (en 1), .bool (true), .bool (en 3), .bool (en 4), .bool (en 5), .bool (en 6), .bool (en 7), .bool (en 8), .bool (en 9), .bool true]) (by simp [results, Tryz.results44, asAddr, Result.andThen, ql]) rfl ⟨rfl, below3 w _ _ _⟩

set_option maxRecDepth 100000 in
set_option maxHeartbeats 8000000 in
theorem thru_leaf8_3 (b o0 n cap : Nat) (xs : List Nd) (hlen : xs.length = n) (hn : n ≤ 120) (w0 w1 w2 w3 : Nat) (xa xb m M : Int) : Thru b o0 n cap xs (T.leaf ⟨8, w0, w1, w2, w3, xa, xb, m, M, 3⟩) := by
  rintro o k ⟨g, j, en, r⟩ w ha he hk hj hw
  have hr := ha.root
  rw [show o + (T.leaf ⟨8, w0, w1, w2, w3, xa, xb, m, M, 3⟩).size - 1 = k by omega] at hr
  have lb := hw.lt
  have hk1 : (k : Int) < n := by omega
  have hcell := hw.cell k _ hr
  have d0 : w.cell? ⟨b, o0 + k * 10, none⟩ = some (.int .i64 8) := hcell 0 _ rfl
  have d1 : w.cell? ⟨b, o0 + k * 10 + 1, none⟩ = some (.int .u64 w0) := hcell 1 _ rfl
  have d2 : w.cell? ⟨b, o0 + k * 10 + 2, none⟩ = some (.int .u64 w1) := hcell 2 _ rfl
  have d3 : w.cell? ⟨b, o0 + k * 10 + 3, none⟩ = some (.int .u64 w2) := hcell 3 _ rfl
  have d4 : w.cell? ⟨b, o0 + k * 10 + 4, none⟩ = some (.int .u64 w3) := hcell 4 _ rfl
  have d5 : w.cell? ⟨b, o0 + k * 10 + 5, none⟩ = some (.int .i64 xa) := hcell 5 _ rfl
  have d6 : w.cell? ⟨b, o0 + k * 10 + 6, none⟩ = some (.int .i64 xb) := hcell 6 _ rfl
  have d7 : w.cell? ⟨b, o0 + k * 10 + 7, none⟩ = some (.int .i64 m) := hcell 7 _ rfl
  have d8 : w.cell? ⟨b, o0 + k * 10 + 8, none⟩ = some (.int .i64 M) := hcell 8 _ rfl
  have d9 : w.cell? ⟨b, o0 + k * 10 + 9, none⟩ = some (.int .i64 3) := hcell 9 _ rfl
  have et : thr (decide (n = 1)) (T.leaf ⟨8, w0, w1, w2, w3, xa, xb, m, M, 3⟩) ⟨g, j, en, r⟩ = ⟨g && en 3, j, en, true⟩ := rfl
  rw [et]
  clear hcell hr ha et
  simp only [Wk.cells]
  generalize en 3 = eN at *
  cases eN
  · rw [Bool.and_false]
    go_enter Tryz.func44, Tryz.ntmps44
    go_wp2
    have ql := (WB.mk (heap3 w (.cells #[.bool false, .int .i64 j, .bool (en 0), .bool (en 1), .bool (en 2), .bool (false), .bool (en 4), .bool (en 5), .bool (en 6), .bool (en 7), .bool (en 8), .bool (en 9), .bool true] 49) (.cells #[.bool false, .int .i64 j, .bool (en 0), .bool (en 1), .bool (en 2), .bool (false), .bool (en 4), .bool (en 5), .bool (en 6), .bool (en 7), .bool (en 8), .bool (en 9), .bool true] 49) (.cells #[.int .i64 8, .int .u64 w0, .int .u64 w1, .int .u64 w2, .int .u64 w3, .int .i64 xa, .int .i64 xb, .int .i64 m, .int .i64 M, .int .i64 3] 45))).load rfl
    refine bodyPost_ret (v := .agg #[.bool false, .int .i64 j, .bool (en 0), .bool (en 1), .bool (en 2), .bool (false), .bool (en 4), .bool (en 5), .bool (en 6), .bool (en 7), .bool (en 8), .bool (en 9), .bool true]) (by simp [results, Tryz.results44, asAddr, Result.andThen, ql]) rfl ⟨rfl, below3 w _ _ _⟩
  · rw [Bool.and_true]
    go_enter Tryz.func44, Tryz.ntmps44
    go_wp2
    have ql := (WB.mk (heap3 w (.cells #[.bool g, .int .i64 j, .bool (en 0), .bool (en 1), .bool (en 2), .bool (true), .bool (en 4), .bool (en 5), .bool (en 6), .bool (en 7), .bool (en 8), .bool (en 9), .bool true] 49) (.cells #[.bool g, .int .i64 j, .bool (en 0), .bool (en 1), .bool (en 2), .bool (true), .bool (en 4), .bool (en 5), .bool (en 6), .bool (en 7), .bool (en 8), .bool (en 9), .bool true] 49) (.cells #[.int .i64 8, .int .u64 w0, .int .u64 w1, .int .u64 w2, .int .u64 w3, .int .i64 xa, .int .i64 xb, .int .i64 m, .int .i64 M, .int .i64 3] 45))).load rfl
    refine bodyPost_ret (v := .agg #[.bool g, .int .i64 j, .bool (en 0), .bool (en 1), .bool (en 2), .bool (true), .bool (en 4), .bool (en 5), .bool (en 6), .bool (en 7), .bool (en 8), .bool (en 9), .bool true]) (by simp [results, Tryz.results44, asAddr, Result.andThen, ql]) rfl ⟨rfl, below3 w _ _ _⟩

set_option maxRecDepth 100000 in
set_option maxHeartbeats 8000000 in
theorem thru_leaf8_4 (b o0 n cap : Nat) (xs : List Nd) (hlen : xs.length = n) (hn : n ≤ 120) (w0 w1 w2 w3 : Nat) (xa xb m M : Int) : Thru b o0 n cap xs (T.leaf ⟨8, w0, w1, w2, w3, xa, xb, m, M, 4⟩) := by
  rintro o k ⟨g, j, en, r⟩ w ha he hk hj hw
  have hr := ha.root
  rw [show o + (T.leaf ⟨8, w0, w1, w2, w3, xa, xb, m, M, 4⟩).size - 1 = k by omega] at hr
  have lb := hw.lt
  have hk1 : (k : Int) < n := by omega
  have hcell := hw.cell k _ hr
  have d0 : w.cell? ⟨b, o0 + k * 10, none⟩ = some (.int .i64 8) := hcell 0 _ rfl
  have d1 : w.cell? ⟨b, o0 + k * 10 + 1, none⟩ = some (.int .u64 w0) := hcell 1 _ rfl
  have d2 : w.cell? ⟨b, o0 + k * 10 + 2, none⟩ = some (.int .u64 w1) := hcell 2 _ rfl
  have d3 : w.cell? ⟨b, o0 + k * 10 + 3, none⟩ = some (.int .u64 w2) := hcell 3 _ rfl
  have d4 : w.cell? ⟨b, o0 + k * 10 + 4, none⟩ = some (.int .u64 w3) := hcell 4 _ rfl
  have d5 : w.cell? ⟨b, o0 + k * 10 + 5, none⟩ = some (.int .i64 xa) := hcell 5 _ rfl
  have d6 : w.cell? ⟨b, o0 + k * 10 + 6, none⟩ = some (.int .i64 xb) := hcell 6 _ rfl
  have d7 : w.cell? ⟨b, o0 + k * 10 + 7, none⟩ = some (.int .i64 m) := hcell 7 _ rfl
  have d8 : w.cell? ⟨b, o0 + k * 10 + 8, none⟩ = some (.int .i64 M) := hcell 8 _ rfl
  have d9 : w.cell? ⟨b, o0 + k * 10 + 9, none⟩ = some (.int .i64 4) := hcell 9 _ rfl
  have et : thr (decide (n = 1)) (T.leaf ⟨8, w0, w1, w2, w3, xa, xb, m, M, 4⟩) ⟨g, j, en, r⟩ = ⟨g && en 4, j, en, true⟩ := rfl
  rw [et]
  clear hcell hr ha et
  simp only [Wk.cells]
  generalize en 4 = eN at *
  cases eN
  · rw [Bool.and_false]
    go_enter Tryz.func44, Tryz.ntmps44
    go_wp2
    have ql := (WB.mk (heap3 w (.cells #[.bool false, .int .i64 j, .bool (en 0), .bool (en 1), .bool (en 2), .bool (en 3), .bool (false), .bool (en 5), .bool (en 6), .bool (en 7), .bool (en 8), .bool (en 9), .bool true] 49) (.cells #[.bool false, .int .i64 j, .bool (en 0), .bool (en 1), .bool (en 2), .bool (en 3), .bool (false), .bool (en 5), .bool (en 6), .bool (en 7), .bool (en 8), .bool (en 9), .bool true] 49) (.cells #[.int .i64 8, .int .u64 w0, .int .u64 w1, .int .u64 w2, .int .u64 w3, .int .i64 xa, .int .i64 xb, .int .i64 m, .int .i64 M, .int .i64 4] 45))).load rfl
    refine bodyPost_ret (v := .agg #[.bool false, .int .i64 j, .bool (en 0), .bool (en 1), .bool (en 2), .bool (en 3), .bool (false), .bool (en 5), .bool (en 6), .bool (en 7), .bool (en 8), .bool (en 9), .bool true]) (by simp [results, Tryz.results44, asAddr, Result.andThen, ql]) rfl ⟨rfl, below3 w _ _ _⟩
  · rw [Bool.and_true]
    go_enter Tryz.func44, Tryz.ntmps44
    go_wp2
    have ql := (WB.mk (heap3 w (.cells #[.bool g, .int .i64 j, .bool (en 0), .bool (en 1), .bool (en 2), .bool (en 3), .bool (true), .bool (en 5), .bool (en 6), .bool (en 7), .bool (en 8), .bool (en 9), .bool true] 49) (.cells #[.bool g, .int .i64 j, .bool (en 0), .bool (en 1), .bool (en 2), .bool (en 3), .bool (true), .bool (en 5), .bool (en 6), .bool (en 7), .bool (en 8), .bool (en 9), .bool true] 49) (.cells #[.int .i64 8, .int .u64 w0, .int .u64 w1, .int .u64 w2, .int .u64 w3, .int .i64 xa, .int .i64 xb, .int .i64 m, .int .i64 M, .int .i64 4] 45))).load rfl
    refine bodyPost_ret (v := .agg #[.bool g, .int .i64 j, .bool (en 0), .bool (en 1), .bool (en 2), .bool (en 3), .bool (true), .bool (en 5), .bool (en 6), .bool (en 7), .bool (en 8), .bool (en 9), .bool true]) (by simp [results, Tryz.results44, asAddr, Result.andThen, ql]) rfl ⟨rfl, below3 w _ _ _⟩

set_option maxRecDepth 100000 in
set_option maxHeartbeats 8000000 in
theorem thru_leaf8_5 (b o0 n cap : Nat) (xs : List Nd) (hlen : xs.length = n) (hn : n ≤ 120) (w0 w1 w2 w3 : Nat) (xa xb m M : Int) : Thru b o0 n cap xs (T.leaf ⟨8, w0, w1, w2, w3, xa, xb, m, M, 5⟩) := by
  rintro o k ⟨g, j, en, r⟩ w ha he hk hj hw
  have hr := ha.root
  rw [show o + (T.leaf ⟨8, w0, w1, w2, w3, xa, xb, m, M, 5⟩).size - 1 = k by omega] at hr
  have lb := hw.lt
  have hk1 : (k : Int) < n := by omega
  have hcell := hw.cell k _ hr
  have d0 : w.cell? ⟨b, o0 + k * 10, none⟩ = some (.int .i64 8) := hcell 0 _ rfl
  have d1 : w.cell? ⟨b, o0 + k * 10 + 1, none⟩ = some (.int .u64 w0) := hcell 1 _ rfl
  have d2 : w.cell? ⟨b, o0 + k * 10 + 2, none⟩ = some (.int .u64 w1) := hcell 2 _ rfl
  have d3 : w.cell? ⟨b, o0 + k * 10 + 3, none⟩ = some (.int .u64 w2) := hcell 3 _ rfl
  have d4 : w.cell? ⟨b, o0 + k * 10 + 4, none⟩ = some (.int .u64 w3) := hcell 4 _ rfl
  have d5 : w.cell? ⟨b, o0 + k * 10 + 5, none⟩ = some (.int .i64 xa) := hcell 5 _ rfl
  have d6 : w.cell? ⟨b, o0 + k * 10 + 6, none⟩ = some (.int .i64 xb) := hcell 6 _ rfl
  have d7 : w.cell? ⟨b, o0 + k * 10 + 7, none⟩ = some (.int .i64 m) := hcell 7 _ rfl
  have d8 : w.cell? ⟨b, o0 + k * 10 + 8, none⟩ = some (.int .i64 M) := hcell 8 _ rfl
  have d9 : w.cell? ⟨b, o0 + k * 10 + 9, none⟩ = some (.int .i64 5) := hcell 9 _ rfl
  have et : thr (decide (n = 1)) (T.leaf ⟨8, w0, w1, w2, w3, xa, xb, m, M, 5⟩) ⟨g, j, en, r⟩ = ⟨g && en 5, j, en, true⟩ := rfl
  rw [et]
  clear hcell hr ha et
  simp only [Wk.cells]
  generalize en 5 = eN at *
  cases eN
  · rw [Bool.and_false]
    go_enter Tryz.func44, Tryz.ntmps44
    go_wp2
    have ql := (WB.mk (heap3 w (.cells #[.bool false, .int .i64 j, .bool (en 0), .bool (en 1), .bool (en 2), .bool (en 3), .bool (en 4), .bool (false), .bool (en 6), .bool (en 7), .bool (en 8), .bool (en 9), .bool true] 49) (.cells #[.bool false, .int .i64 j, .bool (en 0), .bool (en 1), .bool (en 2), .bool (en 3), .bool (en 4), .bool (false), .bool (en 6), .bool (en 7), .bool (en 8), .bool (en 9), .bool true] 49) (.cells #[.int .i64 8, .int .u64 w0, .int .u64 w1, .int .u64 w2, .int .u64 w3, .int .i64 xa, .int .i64 xb, .int .i64 m, .int .i64 M, .int .i64 5] 45))).load rfl
    refine bodyPost_ret (v := .agg #[.bool false, .int .i64 j, .bool (en 0), .bool (en 1), .bool (en 2), .bool (en 3), .bool (en 4), .bool (false), .bool (en 6), .bool (en 7), .bool (en 8), .bool (en 9), .bool true]) (by simp [results, Tryz.results44, asAddr, Result.andThen, ql]) rfl ⟨rfl, below3 w _ _ _⟩
  · rw [Bool.and_true]
    go_enter Tryz.func44, Tryz.ntmps44
    go_wp2
    have ql := (WB.mk (heap3 w (.cells #[.bool g, .int .i64 j, .bool (en 0), .bool (en 1), .bool (en 2), .bool (en 3), .bool (en 4), .bool (true), .bool (en 6), .bool (en 7), .bool (en 8), .bool (en 9), .bool true] 49) (.cells #[.bool g, .int .i64 j, .bool (en 0), .bool (en 1), .bool (en 2), .bool (en 3), .bool (en 4), .bool (true), .bool (en 6), .bool (en 7), .bool (en 8), .bool (en 9), .bool true] 49) (.cells #[.int .i64 8, .int .u64 w0, .int .u64 w1, .int .u64 w2, .int .u64 w3, .int .i64 xa, .int .i64 xb, .int .i64 m, .int .i64 M, .int .i64 5] 45))).load rfl
    refine bodyPost_ret (v := .agg #[.bool g, .int .i64 j, .bool (en 0), .bool (en 1), .bool (en 2), .bool (en 3), .bool (en 4), .bool (true), .bool (en 6), .bool (en 7), .bool (en 8), .bool (en 9), .bool true]) (by simp [results, Tryz.results44, asAddr, Result.andThen, ql]) rfl ⟨rfl, below3 w _ _ _⟩

set_option maxRecDepth 100000 in
set_option maxHeartbeats 8000000 in
theorem thru_leaf8_6 (b o0 n cap : Nat) (xs : List Nd) (hlen : xs.length = n) (hn : n ≤ 120) (w0 w1 w2 w3 : Nat) (xa xb m M : Int) : Thru b o0 n cap xs (T.leaf ⟨8, w0, w1, w2, w3, xa, xb, m, M, 6⟩) := by
  rintro o k ⟨g, j, en, r⟩ w ha he hk hj hw
  have hr := ha.root
  rw [show o + (T.leaf ⟨8, w0, w1, w2, w3, xa, xb, m, M, 6⟩).size - 1 = k by omega] at hr
  have lb := hw.lt
  have hk1 : (k : Int) < n := by omega
  have hcell := hw.cell k _ hr
  have d0 : w.cell? ⟨b, o0 + k * 10, none⟩ = some (.int .i64 8) := hcell 0 _ rfl
  have d1 : w.cell? ⟨b, o0 + k * 10 + 1, none⟩ = some (.int .u64 w0) := hcell 1 _ rfl
  have d2 : w.cell? ⟨b, o0 + k * 10 + 2, none⟩ = some (.int .u64 w1) := hcell 2 _ rfl
  have d3 : w.cell? ⟨b, o0 + k * 10 + 3, none⟩ = some (.int .u64 w2) := hcell 3 _ rfl
  have d4 : w.cell? ⟨b, o0 + k * 10 + 4, none⟩ = some (.int .u64 w3) := hcell 4 _ rfl
  have d5 : w.cell? ⟨b, o0 + k * 10 + 5, none⟩ = some (.int .i64 xa) := hcell 5 _ rfl
  have d6 : w.cell? ⟨b, o0 + k * 10 + 6, none⟩ = some (.int .i64 xb) := hcell 6 _ rfl
  have d7 : w.cell? ⟨b, o0 + k * 10 + 7, none⟩ = some (.int .i64 m) := hcell 7 _ rfl
  have d8 : w.cell? ⟨b, o0 + k * 10 + 8, none⟩ = some (.int .i64 M) := hcell 8 _ rfl
  have d9 : w.cell? ⟨b, o0 + k * 10 + 9, none⟩ = some (.int .i64 6) := hcell 9 _ rfl
  have et : thr (decide (n = 1)) (T.leaf ⟨8, w0, w1, w2, w3, xa, xb, m, M, 6⟩) ⟨g, j, en, r⟩ = ⟨g && en 6, j, en, true⟩ := rfl
  rw [et]
  clear hcell hr ha et
  simp only [Wk.cells]
  generalize en 6 = eN at *
  cases eN
  · rw [Bool.and_false]
    go_enter Tryz.func44, Tryz.ntmps44
    go_wp2
    have ql := (WB.mk (heap3 w (.cells #[.bool false, .int .i64 j, .bool (en 0), .bool (en 1), .bool (en 2), .bool (en 3), .bool (en 4), .bool (en 5), .bool (false), .bool (en 7), .bool (en 8), .bool (en 9), .bool true] 49) (.cells #[.bool false, .int .i64 j, .bool (en 0), .bool (en 1), .bool (en 2), .bool (en 3), .bool (en 4), .bool (en 5), .bool (false), .bool (en 7), .bool (en 8), .bool (en 9), .bool true] 49) (.cells #[.int .i64 8, .int .u64 w0, .int .u64 w1, .int .u64 w2, .int .u64 w3, .int .i64 xa, .int .i64 xb, .int .i64 m, .int .i64 M, .int .i64 6] 45))).load rfl
    refine bodyPost_ret (v := .agg #[.bool false, .int .i64 j, .bool (en 0), .bool (en 1), .bool (en 2), .bool (en 3), .bool (en 4), .bool (en 5), .bool (false), .bool (en 7), .bool (en 8), .bool (en 9), .bool true]) (by simp [results, Tryz.results44, asAddr, Result.andThen, ql]) rfl ⟨rfl, below3 w _ _ _⟩
  · rw [Bool.and_true]
    go_enter Tryz.func44, Tryz.ntmps44
    go_wp2
    have ql := (WB.mk (heap3 w (.cells #[.bool g, .int .i64 j, .bool (en 0), .bool (en 1), .bool (en 2), .bool (en 3), .bool (en 4), .bool (en 5), .bool (true), .bool (en 7), .bool (en 8), .bool (en 9), .bool true] 49) (.cells #[.bool g, .int .i64 j, .bool (en 0), .bool (en 1), .bool (en 2), .bool (en 3), .bool (en 4), .bool (en 5), .bool (true), .bool (en 7), .bool (en 8), .bool (en 9), .bool true] 49) (.cells #[.int .i64 8, .int .u64 w0, .int .u64 w1, .int .u64 w2, .int .u64 w3, .int .i64 xa, .int .i64 xb, .int .i64 m, .int .i64 M, .int .i64 6] 45))).load rfl
    refine bodyPost_ret (v := .agg #[.bool g, .int .i64 j, .bool (en 0), .bool (en 1), .bool (en 2), .bool (en 3), .bool (en 4), .bool (en 5), .bool (true), .bool (en 7), .bool (en 8), .bool (en 9), .bool true]) (by simp [results, Tryz.results44, asAddr, Result.andThen, ql]) rfl ⟨rfl, below3 w _ _ _⟩

set_option maxRecDepth 100000 in
set_option maxHeartbeats 8000000 in
theorem thru_leaf8_7 (b o0 n cap : Nat) (xs : List Nd) (hlen : xs.length = n) (hn : n ≤ 120) (w0 w1 w2 w3 : Nat) (xa xb m M : Int) : Thru b o0 n cap xs (T.leaf ⟨8, w0, w1, w2, w3, xa, xb, m, M, 7⟩) := by
  rintro o k ⟨g, j, en, r⟩ w ha he hk hj hw
  have hr := ha.root
  rw [show o + (T.leaf ⟨8, w0, w1, w2, w3, xa, xb, m, M, 7⟩).size - 1 = k by omega] at hr
  have lb := hw.lt
  have hk1 : (k : Int) < n := by omega
  have hcell := hw.cell k _ hr
  have d0 : w.cell? ⟨b, o0 + k * 10, none⟩ = some (.int .i64 8) := hcell 0 _ rfl
  have d1 : w.cell? ⟨b, o0 + k * 10 + 1, none⟩ = some (.int .u64 w0) := hcell 1 _ rfl
  have d2 : w.cell? ⟨b, o0 + k * 10 + 2, none⟩ = some (.int .u64 w1) := hcell 2 _ rfl
  have d3 : w.cell? ⟨b, o0 + k * 10 + 3, none⟩ = some (.int .u64 w2) := hcell 3 _ rfl
  have d4 : w.cell? ⟨b, o0 + k * 10 + 4, none⟩ = some (.int .u64 w3) := hcell 4 _ rfl
  have d5 : w.cell? ⟨b, o0 + k * 10 + 5, none⟩ = some (.int .i64 xa) := hcell 5 _ rfl
  have d6 : w.cell? ⟨b, o0 + k * 10 + 6, none⟩ = some (.int .i64 xb) := hcell 6 _ rfl
  have d7 : w.cell? ⟨b, o0 + k * 10 + 7, none⟩ = some (.int .i64 m) := hcell 7 _ rfl
  have d8 : w.cell? ⟨b, o0 + k * 10 + 8, none⟩ = some (.int .i64 M) := hcell 8 _ rfl
  have d9 : w.cell? ⟨b, o0 + k * 10 + 9, none⟩ = some (.int .i64 7) := hcell 9 _ rfl
  have et : thr (decide (n = 1)) (T.leaf ⟨8, w0, w1, w2, w3, xa, xb, m, M, 7⟩) ⟨g, j, en, r⟩ = ⟨g && en 7, j, en, true⟩ := rfl
  rw [et]
  clear hcell hr ha et
  simp only [Wk.cells]
  generalize en 7 = eN at *
  cases eN
  · rw [Bool.and_false]
    go_enter Tryz.func44, Tryz.ntmps44
    go_wp2
    have ql := (WB.mk (heap3 w (.cells #[.bool false, .int .i64 j, .bool (en 0), .bool (en 1), .bool (en 2), .bool (en 3), .bool (en 4), .bool (en 5), .bool (en 6), .bool (false), .bool (en 8), .bool (en 9), .bool true] 49) (.cells #[.bool false, .int .i64 j, .bool (en 0), .bool (en 1), .bool (en 2), .bool (en 3), .bool (en 4), .bool (en 5), .bool (en 6), .bool (false), .bool (en 8), .bool (en 9), .bool true] 49) (.cells #[.int .i64 8, .int .u64 w0, .int .u64 w1, .int .u64 w2, .int .u64 w3, .int .i64 xa, .int .i64 xb, .int .i64 m, .int .i64 M, .int .i64 7] 45))).load rfl
    refine bodyPost_ret (v := .agg #[.bool false, .int .i64 j, .bool (en 0), .bool (en 1), .bool (en 2), .bool (en 3), .bool (en 4), .bool (en 5), .bool (en 6), .bool (false), .bool (en 8), .bool (en 9), .bool true]) (by simp [results, Tryz.results44, asAddr, Result.andThen, ql]) rfl ⟨rfl, below3 w _ _ _⟩
  · rw [Bool.and_true]
    go_enter Tryz.func44, Tryz.ntmps44
    go_wp2
    have ql := (WB.mk (heap3 w (.cells #[.bool g, .int .i64 j, .bool (en 0), .bool (en 1), .bool (en 2), .bool (en 3), .bool (en 4), .bool (en 5), .bool (en 6), .bool (true), .bool (en 8), .bool (en 9), .bool true] 49) (.cells #[.bool g, .int .i64 j, .bool (en 0), .bool (en 1), .bool (en 2), .bool (en 3), .bool (en 4), .bool (en 5), .bool (en 6), .bool (true), .bool (en 8), .bool (en 9), .bool true] 49) (.cells #[.int .i64 8, .int .u64 w0, .int .u64 w1, .int .u64 w2, .int .u64 w3, .int .i64 xa, .int .i64 xb, .int .i64 m, .int .i64 M, .int .i64 7] 45))).load rfl
    refine bodyPost_ret (v := .agg #[.bool g, .int .i64 j, .bool (en 0), .bool (en 1), .bool (en 2), .bool (en 3), .bool (en 4), .bool (en 5), .bool (en 6), .bool (true), .bool (en 8), .bool (en 9), .bool true]) (by simp [results, Tryz.results44, asAddr, Result.andThen, ql]) rfl ⟨rfl, below3 w _ _ _⟩

set_option maxRecDepth 100000 in
set_option maxHeartbeats 8000000 in
theorem thru_leaf8_8 (b o0 n cap : Nat) (xs : List Nd) (hlen : xs.length = n) (hn : n ≤ 120) (w0 w1 w2 w3 : Nat) (xa xb m M : Int) : Thru b o0 n cap xs (T.leaf ⟨8, w0, w1, w2, w3, xa, xb, m, M, 8⟩) := by
  rintro o k ⟨g, j, en, r⟩ w ha he hk hj hw
  have hr := ha.root
  rw [show o + (T.leaf ⟨8, w0, w1, w2, w3, xa, xb, m, M, 8⟩).size - 1 = k by omega] at hr
  have lb := hw.lt
  have hk1 : (k : Int) < n := by omega
  have hcell := hw.cell k _ hr
  have d0 : w.cell? ⟨b, o0 + k * 10, none⟩ = some (.int .i64 8) := hcell 0 _ rfl
  have d1 : w.cell? ⟨b, o0 + k * 10 + 1, none⟩ = some (.int .u64 w0) := hcell 1 _ rfl
  have d2 : w.cell? ⟨b, o0 + k * 10 + 2, none⟩ = some (.int .u64 w1) := hcell 2 _ rfl
  have d3 : w.cell? ⟨b, o0 + k * 10 + 3, none⟩ = some (.int .u64 w2) := hcell 3 _ rfl
  have d4 : w.cell? ⟨b, o0 + k * 10 + 4, none⟩ = some (.int .u64 w3) := hcell 4 _ rfl
  have d5 : w.cell? ⟨b, o0 + k * 10 + 5, none⟩ = some (.int .i64 xa) := hcell 5 _ rfl
  have d6 : w.cell? ⟨b, o0 + k * 10 + 6, none⟩ = some (.int .i64 xb) := hcell 6 _ rfl
  have d7 : w.cell? ⟨b, o0 + k * 10 + 7, none⟩ = some (.int .i64 m) := hcell 7 _ rfl
  have d8 : w.cell? ⟨b, o0 + k * 10 + 8, none⟩ = some (.int .i64 M) := hcell 8 _ rfl
  have d9 : w.cell? ⟨b, o0 + k * 10 + 9, none⟩ = some (.int .i64 8) := hcell 9 _ rfl
  have et : thr (decide (n = 1)) (T.leaf ⟨8, w0, w1, w2, w3, xa, xb, m, M, 8⟩) ⟨g, j, en, r⟩ = ⟨g && en 8, j, en, true⟩ := rfl
  rw [et]
  clear hcell hr ha et
  simp only [Wk.cells]
  generalize en 8 = eN at *
  cases eN
  · rw [Bool.and_false]
    go_enter Tryz.func44, Tryz.ntmps44
    go_wp2
    have ql := (WB.mk (heap3 w (.cells #[.bool false, .int .i64 j, .bool (en 0), .bool (en 1), .bool (en 2), .bool (en 3), .bool (en 4), .bool (en 5), .bool (en 6), .bool (en 7), .bool (false), .bool (en 9), .bool true] 49) (.cells #[.bool false, .int .i64 j, .bool (en 0), .bool (en 1), .bool (en 2), .bool (en 3), .bool (en 4), .bool (en 5), .bool (en 6), .bool (en 7), .bool (false), .bool (en 9), .bool true] 49) (.cells #[.int .i64 8, .int .u64 w0, .int .u64 w1, .int .u64 w2, .int .u64 w3, .int .i64 xa, .int .i64 xb, .int .i64 m, .int .i64 M, .int .i64 8] 45))).load rfl
    refine bodyPost_ret (v := .agg #[.bool false, .int .i64 j, .bool (en 0), .bool (en 1), .bool (en 2), .bool (en 3), .bool (en 4), .bool (en 5), .bool (en 6), .bool (en 7), .bool (false), .bool (en 9), .bool true]) (by simp [results, Tryz.results44, asAddr, Result.andThen, ql]) rfl ⟨rfl, below3 w _ _ _⟩
  · rw [Bool.and_true]
    go_enter Tryz.func44, Tryz.ntmps44
    go_wp2
    have ql := (WB.mk (heap3 w (.cells #[.bool g, .int .i64 j, .bool (en 0), .bool (en 1), .bool (en 2), .bool (en 3), .bool (en 4), .bool (en 5), .bool (en 6), .bool (en 7), .bool (true), .bool (en 9), .bool true] 49) (.cells #[.bool g, .int .i64 j, .bool (en 0), .bool (en 1), .bool (en 2), .bool (en 3), .bool (en 4), .bool (en 5), .bool (en 6), .bool (en 7), .bool (true), .bool (en 9), .bool true] 49) (.cells #[.int .i64 8, .int .u64 w0, .int .u64 w1, .int .u64 w2, .int .u64 w3, .int .i64 xa, .int .i64 xb, .int .i64 m, .int .i64 M, .int .i64 8] 45))).load rfl
    refine bodyPost_ret (v := .agg #[.bool g, .int .i64 j, .bool (en 0), .bool (en 1), .bool (en 2), .bool (en 3), .bool (en 4), .bool (en 5), .bool (en 6), .bool (en 7), .bool (true), .bool (en 9), .bool true]) (by simp [results, Tryz.results44, asAddr, Result.andThen, ql]) rfl ⟨rfl, below3 w _ _ _⟩

set_option maxRecDepth 100000 in
set_option maxHeartbeats 8000000 in
theorem thru_leaf8_9 (b o0 n cap : Nat) (xs : List Nd) (hlen : xs.length = n) (hn : n ≤ 120) (w0 w1 w2 w3 : Nat) (xa xb m M : Int) : Thru b o0 n cap xs (T.leaf ⟨8, w0, w1, w2, w3, xa, xb, m, M, 9⟩) := by
  rintro o k ⟨g, j, en, r⟩ w ha he hk hj hw
  have hr := ha.root
  rw [show o + (T.leaf ⟨8, w0, w1, w2, w3, xa, xb, m, M, 9⟩).size - 1 = k by omega] at hr
  have lb := hw.lt
  have hk1 : (k : Int) < n := by omega
  have hcell := hw.cell k _ hr
  have d0 : w.cell? ⟨b, o0 + k * 10, none⟩ = some (.int .i64 8) := hcell 0 _ rfl
  have d1 : w.cell? ⟨b, o0 + k * 10 + 1, none⟩ = some (.int .u64 w0) := hcell 1 _ rfl
  have d2 : w.cell? ⟨b, o0 + k * 10 + 2, none⟩ = some (.int .u64 w1) := hcell 2 _ rfl
  have d3 : w.cell? ⟨b, o0 + k * 10 + 3, none⟩ = some (.int .u64 w2) := hcell 3 _ rfl
  have d4 : w.cell? ⟨b, o0 + k * 10 + 4, none⟩ = some (.int .u64 w3) := hcell 4 _ rfl
  have d5 : w.cell? ⟨b, o0 + k * 10 + 5, none⟩ = some (.int .i64 xa) := hcell 5 _ rfl
  have d6 : w.cell? ⟨b, o0 + k * 10 + 6, none⟩ = some (.int .i64 xb) := hcell 6 _ rfl
  have d7 : w.cell? ⟨b, o0 + k * 10 + 7, none⟩ = some (.int .i64 m) := hcell 7 _ rfl
  have d8 : w.cell? ⟨b, o0 + k * 10 + 8, none⟩ = some (.int .i64 M) := hcell 8 _ rfl
  have d9 : w.cell? ⟨b, o0 + k * 10 + 9, none⟩ = some (.int .i64 9) := hcell 9 _ rfl
  have et : thr (decide (n = 1)) (T.leaf ⟨8, w0, w1, w2, w3, xa, xb, m, M, 9⟩) ⟨g, j, en, r⟩ = ⟨g && en 9, j, en, true⟩ := rfl
  rw [et]
  clear hcell hr ha et
  simp only [Wk.cells]
  generalize en 9 = eN at *
  cases eN
  · rw [Bool.and_false]
    go_enter Tryz.func44, Tryz.ntmps44
    go_wp2
    have ql := (WB.mk (heap3 w (.cells #[.bool false, .int .i64 j, .bool (en 0), .bool (en 1), .bool (en 2), .bool (en 3), .bool (en 4), .bool (en 5), .bool (en 6), .bool (en 7), .bool (en 8), .bool (false), .bool true] 49) (.cells #[.bool false, .int .i64 j, .bool (en 0), .bool (en 1), .bool (en 2), .bool (en 3), .bool (en 4), .bool (en 5), .bool (en 6), .bool (en 7), .bool (en 8), .bool (false), .bool true] 49) (.cells #[.int .i64 8, .int .u64 w0, .int .u64 w1, .int .u64 w2, .int .u64 w3, .int .i64 xa, .int .i64 xb, .int .i64 m, .int .i64 M, .int .i64 9] 45))).load rfl
    refine bodyPost_ret (v := .agg #[.bool false, .int .i64 j, .bool (en 0), .bool (en 1), .bool (en 2), .bool (en 3), .bool (en 4), .bool (en 5), .bool (en 6), .bool (en 7), .bool (en 8), .bool (false), .bool true]) (by simp [results, Tryz.results44, asAddr, Result.andThen, ql]) rfl ⟨rfl, below3 w _ _ _⟩
  · rw [Bool.and_true]
    go_enter Tryz.func44, Tryz.ntmps44
    go_wp2
    have ql := (WB.mk (heap3 w (.cells #[.bool g, .int .i64 j, .bool (en 0), .bool (en 1), .bool (en 2), .bool (en 3), .bool (en 4), .bool (en 5), .bool (en 6), .bool (en 7), .bool (en 8), .bool (true), .bool true] 49) (.cells #[.bool g, .int .i64 j, .bool (en 0), .bool (en 1), .bool (en 2), .bool (en 3), .bool (en 4), .bool (en 5), .bool (en 6), .bool (en 7), .bool (en 8), .bool (true), .bool true] 49) (.cells #[.int .i64 8, .int .u64 w0, .int .u64 w1, .int .u64 w2, .int .u64 w3, .int .i64 xa, .int .i64 xb, .int .i64 m, .int .i64 M, .int .i64 9] 45))).load rfl
    refine bodyPost_ret (v := .agg #[.bool g, .int .i64 j, .bool (en 0), .bool (en 1), .bool (en 2), .bool (en 3), .bool (en 4), .bool (en 5), .bool (en 6), .bool (en 7), .bool (en 8), .bool (true), .bool true]) (by simp [results, Tryz.results44, asAddr, Result.andThen, ql]) rfl ⟨rfl, below3 w _ _ _⟩

end Go.Proofs.YthcgboebmhabeaaGreatDoor
