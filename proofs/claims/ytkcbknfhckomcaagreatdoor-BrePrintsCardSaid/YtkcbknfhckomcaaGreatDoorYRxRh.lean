/- The reference's through. -/
import Derived.Test.YtkcbknfhckomcaaGreatDoorYRxRe
import Derived.Deep.RegionHeld3
set_option linter.unusedVariables false
set_option linter.unusedSimpArgs false
set_option maxRecDepth 100000
set_option maxHeartbeats 40000000
namespace Go.Proofs.YtkcbknfhckomcaaGreatDoor
open Go.RowKit
def Thru (b o0 n cap : Nat) (xs : List Nd) (t : T) : Prop := ∀ (o k : Nat) (S : Wk) (w : World), T.At (fun i => xs[i]?) t o → o + t.size = k + 1 → k < n → S.k + t.size ≤ 1000 → NodesAt w b o0 xs →
 Calls Tryz.prog 50 #[.slice (some ⟨b, o0, none⟩) n cap, .int .i64 (k : Int), .agg S.cells] w fun e w' => e = .returned (.agg (thr (decide (n = 1)) t S).cells) ∧ Below w.heap.size w w'
theorem heap3 (w : World) (o1 o2 o3 : Obj) : (((w.alloc o1).alloc o2).alloc o3).heap[w.heap.size + 1]? = some o2 := by
 rw [heap_alloc_lt _ _ _ (by rw [World.size_alloc, World.size_alloc]; omega)]
 have := heap_new (w.alloc o1) o2
 rw [World.size_alloc] at this
 exact this
theorem below3 (w : World) (o1 o2 o3 : Obj) : Below w.heap.size w (((w.alloc o1).alloc o2).alloc o3) := (((Below.refl _ w).alloc (Nat.le_refl _) _).alloc (by rw [World.size_alloc]; omega) _).alloc (by rw [World.size_alloc, World.size_alloc]; omega) _
structure ThS (w : World) (b o : Nat) (xs : List Nd) (x : Nd) (W : Wk) (w' : World) : Prop where
 nodes : NodesAt w' b o xs
 wb : WB w' w.heap.size W.cells
 rb : ∃ v, WB w' (w.heap.size + 1) v ∧ v.size = 13
 nb : w'.heap[w.heap.size + 2]? = some (.cells x.cells 47 (0, 0))
 b : Below w.heap.size w w'
section
variable {w w1 w2 : World} {b o : Nat} {xs : List Nd} {x : Nd} {W : Wk}
theorem ThS.size (h : ThS w b o xs x W w1) : w.heap.size + 3 ≤ w1.heap.size := (Array.getElem?_eq_some_iff.1 h.nb).1
theorem ThS.step (h : ThS w b o xs x W w1) (hB : Below w1.heap.size w1 w2) : ThS w b o xs x W w2 := by
 have hs := h.size
 obtain ⟨v, hv, hz⟩ := h.rb
 exact ⟨h.nodes.below hB h.nodes.lt, h.wb.below hB h.wb.lt, ⟨v, hv.below hB hv.lt, hz⟩, (hB.block _ (by omega)).trans h.nb, h.b.trans (hB.mono h.b.size)⟩
theorem ThS.drew (h : ThS w b o xs x W w1) : ThS w b o xs x W w1.drew := h.step ((Below.refl _ _).drew)
theorem ThS.new (hx : NodesAt w b o xs) (x : Nd) (W : Wk) (v : Array Value) (hv : v.size = 13) : ThS w b o xs x W (((w.alloc (.cells W.cells 62)).alloc (.cells v 62)).alloc (.cells x.cells 47)) := by
 refine ⟨((hx.alloc _).alloc _).alloc _, ⟨?_⟩, ⟨v, ⟨heap3 w _ _ _⟩, hv⟩, ?_, below3 w _ _ _⟩
 ·rw [heap_alloc_lt _ _ _ (by rw [World.size_alloc, World.size_alloc]; omega), heap_alloc_lt _ _ _ (by rw [World.size_alloc]; omega)]
  exact heap_new _ _
 ·have := heap_new ((w.alloc (.cells W.cells 62)).alloc (.cells v 62)) (.cells x.cells 47)
  rw [World.size_alloc, World.size_alloc] at this
  exact this
theorem ThS.ncell (h : ThS w b o xs x W w1) (j : Nat) : w1.cell? ⟨w.heap.size + 2, j, none⟩ = x.cells[j]? := by rw [cell_of _ _ _ _ h.nb]
end
theorem thru_leafk (b o0 n cap : Nat) (xs : List Nd) (hlen : xs.length = n) (hn : n ≤ 120) (kd : Int) (hkd : kd = 1 ∨ kd = 2 ∨ kd = 3) (w0 w1 w2 w3 : Nat) (xa xb m M xn : Int) : Thru b o0 n cap xs (T.leaf ⟨kd, w0, w1, w2, w3, xa, xb, m, M, xn⟩) := by
 rintro o k ⟨g, j, en, r⟩ w ha he hk hj hw
 have hr := ha.root
 rw [show o + (T.leaf ⟨kd, w0, w1, w2, w3, xa, xb, m, M, xn⟩).size - 1 = k by omega] at hr
 have lb := hw.lt
 have hk1 : (k : Int) < n := by omega
 have hcell := hw.cell k _ hr
 have d0 : w.cell? ⟨b, o0 + k * 10, none⟩ = some (.int .i64 kd) := hcell 0 _ rfl
 have d1 : w.cell? ⟨b, o0 + k * 10 + 1, none⟩ = some (.int .u64 w0) := hcell 1 _ rfl
 have d2 : w.cell? ⟨b, o0 + k * 10 + 2, none⟩ = some (.int .u64 w1) := hcell 2 _ rfl
 have d3 : w.cell? ⟨b, o0 + k * 10 + 3, none⟩ = some (.int .u64 w2) := hcell 3 _ rfl
 have d4 : w.cell? ⟨b, o0 + k * 10 + 4, none⟩ = some (.int .u64 w3) := hcell 4 _ rfl
 have d5 : w.cell? ⟨b, o0 + k * 10 + 5, none⟩ = some (.int .i64 xa) := hcell 5 _ rfl
 have d6 : w.cell? ⟨b, o0 + k * 10 + 6, none⟩ = some (.int .i64 xb) := hcell 6 _ rfl
 have d7 : w.cell? ⟨b, o0 + k * 10 + 7, none⟩ = some (.int .i64 m) := hcell 7 _ rfl
 have d8 : w.cell? ⟨b, o0 + k * 10 + 8, none⟩ = some (.int .i64 M) := hcell 8 _ rfl
 have d9 : w.cell? ⟨b, o0 + k * 10 + 9, none⟩ = some (.int .i64 xn) := hcell 9 _ rfl
 have ql := fun (C : Array Value) (o1 o3 : Obj) (h : C.size = 13) => (WB.mk (heap3 w o1 (.cells C 62) o3)).load h
 have et : thr (decide (n = 1)) (T.leaf ⟨kd, w0, w1, w2, w3, xa, xb, m, M, xn⟩) ⟨g, j, en, r⟩ = ⟨g, j, en, r⟩ := by rcases hkd with rfl | rfl | rfl <;> rfl
 rw [et]
 clear hcell hr ha et
 have f4 : (kd == 4) = false := by rcases hkd with rfl | rfl | rfl <;> rfl
 have f5 : (kd == 5) = false := by rcases hkd with rfl | rfl | rfl <;> rfl
 have f6 : (kd == 6) = false := by rcases hkd with rfl | rfl | rfl <;> rfl
 have f7 : (kd == 7) = false := by rcases hkd with rfl | rfl | rfl <;> rfl
 have f8 : (kd == 8) = false := by rcases hkd with rfl | rfl | rfl <;> rfl
 have f0 : (kd == 0) = false := by rcases hkd with rfl | rfl | rfl <;> rfl
 clear hkd
 unfold Wk.cells
 go_enter Tryz.func50, Tryz.ntmps50
 go_wp2
 refine bodyPost_ret (v := _) ?_ rfl ⟨rfl, below3 w _ _ _⟩
 simp [results, Tryz.results50, asAddr, Result.andThen, ql]
theorem thru_leaf1 (b o0 n cap : Nat) (xs : List Nd) (hlen : xs.length = n) (hn : n ≤ 120) (w0 w1 w2 w3 : Nat) (xa xb m M xn : Int) : Thru b o0 n cap xs (T.leaf ⟨1, w0, w1, w2, w3, xa, xb, m, M, xn⟩) := thru_leafk b o0 n cap xs hlen hn 1 (by omega) w0 w1 w2 w3 xa xb m M xn
theorem thru_leaf2 (b o0 n cap : Nat) (xs : List Nd) (hlen : xs.length = n) (hn : n ≤ 120) (w0 w1 w2 w3 : Nat) (xa xb m M xn : Int) : Thru b o0 n cap xs (T.leaf ⟨2, w0, w1, w2, w3, xa, xb, m, M, xn⟩) := thru_leafk b o0 n cap xs hlen hn 2 (by omega) w0 w1 w2 w3 xa xb m M xn
theorem thru_leaf3 (b o0 n cap : Nat) (xs : List Nd) (hlen : xs.length = n) (hn : n ≤ 120) (w0 w1 w2 w3 : Nat) (xa xb m M xn : Int) : Thru b o0 n cap xs (T.leaf ⟨3, w0, w1, w2, w3, xa, xb, m, M, xn⟩) := thru_leafk b o0 n cap xs hlen hn 3 (by omega) w0 w1 w2 w3 xa xb m M xn
theorem thru_leaf0 (b o0 n cap : Nat) (xs : List Nd) (hlen : xs.length = n) (hn : n ≤ 120) (w0 w1 w2 w3 : Nat) (xa xb m M xn : Int) : Thru b o0 n cap xs (T.leaf ⟨0, w0, w1, w2, w3, xa, xb, m, M, xn⟩) := by
 rintro o k ⟨g, j, en, r⟩ w ha he hk hj hw
 have hr := ha.root
 rw [show o + (T.leaf ⟨0, w0, w1, w2, w3, xa, xb, m, M, xn⟩).size - 1 = k by omega] at hr
 have lb := hw.lt
 have hk1 : (k : Int) < n := by omega
 have hcell := hw.cell k _ hr
 have d0 : w.cell? ⟨b, o0 + k * 10, none⟩ = some (.int .i64 0) := hcell 0 _ rfl
 have d1 : w.cell? ⟨b, o0 + k * 10 + 1, none⟩ = some (.int .u64 w0) := hcell 1 _ rfl
 have d2 : w.cell? ⟨b, o0 + k * 10 + 2, none⟩ = some (.int .u64 w1) := hcell 2 _ rfl
 have d3 : w.cell? ⟨b, o0 + k * 10 + 3, none⟩ = some (.int .u64 w2) := hcell 3 _ rfl
 have d4 : w.cell? ⟨b, o0 + k * 10 + 4, none⟩ = some (.int .u64 w3) := hcell 4 _ rfl
 have d5 : w.cell? ⟨b, o0 + k * 10 + 5, none⟩ = some (.int .i64 xa) := hcell 5 _ rfl
 have d6 : w.cell? ⟨b, o0 + k * 10 + 6, none⟩ = some (.int .i64 xb) := hcell 6 _ rfl
 have d7 : w.cell? ⟨b, o0 + k * 10 + 7, none⟩ = some (.int .i64 m) := hcell 7 _ rfl
 have d8 : w.cell? ⟨b, o0 + k * 10 + 8, none⟩ = some (.int .i64 M) := hcell 8 _ rfl
 have d9 : w.cell? ⟨b, o0 + k * 10 + 9, none⟩ = some (.int .i64 xn) := hcell 9 _ rfl
 have ql := fun (C : Array Value) (o1 o3 : Obj) (h : C.size = 13) => (WB.mk (heap3 w o1 (.cells C 62) o3)).load h
 have et : thr (decide (n = 1)) (T.leaf ⟨0, w0, w1, w2, w3, xa, xb, m, M, xn⟩) ⟨g, j, en, r⟩ = ⟨g && decide (n = 1), j, en, r⟩ := rfl
 rw [et]
 clear hcell hr ha et
 unfold Wk.cells
 obtain ⟨hb, h1⟩ | ⟨hb, h1⟩ : (((n : Int) == 1) = true ∧ decide (n = 1) = true) ∨ (((n : Int) == 1) = false ∧ decide (n = 1) = false) := by
  by_cases h : n = 1
  ·exact Or.inl ⟨by simp; omega, decide_eq_true h⟩
  ·exact Or.inr ⟨by rw [beq_eq_false_iff_ne]; omega, decide_eq_false h⟩
 all_goals
  rw [h1]
  clear h1
  simp only [Bool.and_true, Bool.and_false]
  go_enter Tryz.func50, Tryz.ntmps50
  go_wp2
  refine bodyPost_ret (v := _) ?_ rfl ⟨rfl, below3 w _ _ _⟩
  simp [results, Tryz.results50, asAddr, Result.andThen, ql]
theorem thru_leaf8 (b o0 n cap : Nat) (xs : List Nd) (hlen : xs.length = n) (hn : n ≤ 120) (x : Nat) (hx : x < 10) (w0 w1 w2 w3 : Nat) (xa xb m M : Int) : Thru b o0 n cap xs (T.leaf ⟨8, w0, w1, w2, w3, xa, xb, m, M, x⟩) := by
 rintro o k ⟨g, j, en, r⟩ w ha he hk hj hw
 have hr := ha.root
 rw [show o + (T.leaf ⟨8, w0, w1, w2, w3, xa, xb, m, M, x⟩).size - 1 = k by omega] at hr
 have lb := hw.lt
 have hk1 : (k : Int) < n := by omega
 have hcell := hw.cell k _ hr
 have d0 : w.cell? ⟨b, o0 + k * 10, none⟩ = some (.int .i64 8) := hcell 0 _ rfl
 have d1 : w.cell? ⟨b, o0 + k * 10 + 1, none⟩ = some (.int .u64 w0) := hcell 1 _ rfl
 have d2 : w.cell? ⟨b, o0 + k * 10 + 2, none⟩ = some (.int .u64 w1) := hcell 2 _ rfl
 have d3 : w.cell? ⟨b, o0 + k * 10 + 3, none⟩ = some (.int .u64 w2) := hcell 3 _ rfl
 have d4 : w.cell? ⟨b, o0 + k * 10 + 4, none⟩ = some (.int .u64 w3) := hcell 4 _ rfl
 have d5 : w.cell? ⟨b, o0 + k * 10 + 5, none⟩ = some (.int .i64 xa) := hcell 5 _ rfl
 have d6 : w.cell? ⟨b, o0 + k * 10 + 6, none⟩ = some (.int .i64 xb) := hcell 6 _ rfl
 have d7 : w.cell? ⟨b, o0 + k * 10 + 7, none⟩ = some (.int .i64 m) := hcell 7 _ rfl
 have d8 : w.cell? ⟨b, o0 + k * 10 + 8, none⟩ = some (.int .i64 M) := hcell 8 _ rfl
 have d9 : w.cell? ⟨b, o0 + k * 10 + 9, none⟩ = some (.int .i64 x) := hcell 9 _ rfl
 have ql := fun (C : Array Value) (o1 o3 : Obj) (h : C.size = 13) => (WB.mk (heap3 w o1 (.cells C 62) o3)).load h
 have et : thr (decide (n = 1)) (T.leaf ⟨8, w0, w1, w2, w3, xa, xb, m, M, x⟩) ⟨g, j, en, r⟩ = ⟨g && en x, j, en, true⟩ := rfl
 rw [et]
 clear hcell hr ha et
 cases h : en x
 all_goals
  rcases (by omega : x = 0 ∨ x = 1 ∨ x = 2 ∨ x = 3 ∨ x = 4 ∨ x = 5 ∨ x = 6 ∨ x = 7 ∨ x = 8 ∨ x = 9) with rfl | rfl | rfl | rfl | rfl | rfl | rfl | rfl | rfl | rfl
  all_goals as_aux_lemma =>
   simp only [Wk.cells, Bool.and_true, Bool.and_false]
   go_enter Tryz.func50, Tryz.ntmps50
   go_wp2
   refine bodyPost_ret (v := _) ?_ rfl ⟨rfl, below3 w _ _ _⟩
   simp [results, Tryz.results50, asAddr, Result.andThen, ql, h]
end Go.Proofs.YtkcbknfhckomcaaGreatDoor
namespace Go.Proofs.YtkcbknfhckomcaaGreatDoor
open Go.RowKit
theorem WB.storeC {w : World} {b : Nat} {v : Array Value} (h : WB w b v) (hs : v.size = 13) (C : Array Value) (hc : C.size = 13) (ha : C.all (·.oneCell') = true) : (Go.storeCells ⟨b, 0, none⟩ C.toList).run Tryz.prog w = .ok () (w.setRow b C) := by
 have := run_storeVar_row (P := Tryz.prog) w b 62 62 v C h.heap (by rw [sizeWk, hc]) (by rw [hs, hc]) ha
 have hz := sizeWk
 cases hq : Tryz.prog.info? 62 with
 | none => simp [hq] at hz
 | some i =>
  have h2 : i.size = 13 := by simpa [hq] using hz
  simpa [storeVar, sizeOf, typeInfo, hq, Value.cells, h2, hc] using this
theorem thru_times (b o0 n cap : Nat) (xs : List Nd) (hlen : xs.length = n) (hn : n ≤ 120) (m M : Int) (t : T) (ih : Thru b o0 n cap xs t) : Thru b o0 n cap xs (T.times m M t) := by
 rintro o k ⟨g, j, en, r⟩ w ha he hk hj hw
 have hr := ha.root
 rw [show o + (T.times m M t).size - 1 = k by omega] at hr
 have lb := hw.lt
 have hk1 : (k : Int) < n := by omega
 have ha1 := ha.1
 have sa := t.size_pos
 simp only [T.size] at he hj
 simp only [T.root] at hr
 obtain ⟨pa, hpa⟩ : ∃ pa : Nat, o + t.size = pa + 1 := ⟨o + t.size - 1, by omega⟩
 rw [show (o : Int) + t.size - 1 = (pa : Int) by omega] at hr
 have hcell := hw.cell k _ hr
 have d0 : w.cell? ⟨b, o0 + k * 10, none⟩ = some (.int .i64 6) := hcell 0 _ rfl
 have d1 : w.cell? ⟨b, o0 + k * 10 + 1, none⟩ = some (.int .u64 0) := hcell 1 _ rfl
 have d2 : w.cell? ⟨b, o0 + k * 10 + 2, none⟩ = some (.int .u64 0) := hcell 2 _ rfl
 have d3 : w.cell? ⟨b, o0 + k * 10 + 3, none⟩ = some (.int .u64 0) := hcell 3 _ rfl
 have d4 : w.cell? ⟨b, o0 + k * 10 + 4, none⟩ = some (.int .u64 0) := hcell 4 _ rfl
 have d5 : w.cell? ⟨b, o0 + k * 10 + 5, none⟩ = some (.int .i64 pa) := hcell 5 _ rfl
 have d6 : w.cell? ⟨b, o0 + k * 10 + 6, none⟩ = some (.int .i64 0) := hcell 6 _ rfl
 have d7 : w.cell? ⟨b, o0 + k * 10 + 7, none⟩ = some (.int .i64 m) := hcell 7 _ rfl
 have d8 : w.cell? ⟨b, o0 + k * 10 + 8, none⟩ = some (.int .i64 M) := hcell 8 _ rfl
 have d9 : w.cell? ⟨b, o0 + k * 10 + 9, none⟩ = some (.int .i64 0) := hcell 9 _ rfl
 have hra := ha1.root
 rw [show o + t.size - 1 = pa by omega] at hra
 have q0 : w.cell? ⟨b, o0 + pa * 10, none⟩ = some (.int .i64 (rk t)) := by rw [← rk_root t o]; exact hw.cell pa _ hra 0 _ rfl
 have hpn : (pa : Int) < n := by omega
 have et : ∀ S, thr (decide (n = 1)) (T.times m M t) S = thr (decide (n = 1)) t ⟨S.g && okTimes t, S.k, S.en, S.r⟩ := fun S => rfl
 rw [et]
 have ek : okTimes t = (decide (rk t = 1) || decide (rk t = 7) || decide (rk t = 8)) := rfl
 clear hcell et
 by_cases k1 : rk t = 1
 ·have f1 : (rk t == 1) = true := by simp [k1]
  rw [show okTimes t = true by rw [ek]; simp [k1], Bool.and_true]
  clear ek hr hra
  have IA := ih o pa ⟨g, j, en, r⟩ _ ha1 hpa (by omega) (by show j + t.size ≤ 1000; omega) (((hw.alloc (.cells #[.bool g, .int .i64 j, .bool (en 0), .bool (en 1), .bool (en 2), .bool (en 3), .bool (en 4), .bool (en 5), .bool (en 6), .bool (en 7), .bool (en 8), .bool (en 9), .bool r] 62)).alloc (.cells #[.bool false, .int .i64 0, .bool false, .bool false, .bool false, .bool false, .bool false, .bool false, .bool false, .bool false, .bool false, .bool false, .bool false] 62)).alloc (.cells #[.int .i64 6, .int .u64 0, .int .u64 0, .int .u64 0, .int .u64 0, .int .i64 pa, .int .i64 0, .int .i64 m, .int .i64 M, .int .i64 0] 47))
  have hS0 : ThS w b o0 xs ⟨6, 0, 0, 0, 0, pa, 0, m, M, 0⟩ ⟨g, j, en, r⟩ (((w.alloc (.cells #[.bool g, .int .i64 j, .bool (en 0), .bool (en 1), .bool (en 2), .bool (en 3), .bool (en 4), .bool (en 5), .bool (en 6), .bool (en 7), .bool (en 8), .bool (en 9), .bool r] 62)).alloc (.cells #[.bool false, .int .i64 0, .bool false, .bool false, .bool false, .bool false, .bool false, .bool false, .bool false, .bool false, .bool false, .bool false, .bool false] 62)).alloc (.cells #[.int .i64 6, .int .u64 0, .int .u64 0, .int .u64 0, .int .u64 0, .int .i64 pa, .int .i64 0, .int .i64 m, .int .i64 M, .int .i64 0] 47)) := ThS.new hw ⟨6, 0, 0, 0, 0, pa, 0, m, M, 0⟩ ⟨g, j, en, r⟩ #[.bool false, .int .i64 0, .bool false, .bool false, .bool false, .bool false, .bool false, .bool false, .bool false, .bool false, .bool false, .bool false, .bool false] rfl
  have hus : (thr (decide (n = 1)) t ⟨g, j, en, r⟩).cells.size = 13 := rfl
  have hua : (thr (decide (n = 1)) t ⟨g, j, en, r⟩).cells.all (·.oneCell') = true := Wk.cells_all _
  generalize (thr (decide (n = 1)) t ⟨g, j, en, r⟩).cells = C at *
  have IA1 := Lib.hid IA
  clear IA
  simp only [Wk.cells] at IA1
  simp only [Wk.cells]
  have lb2 : b < w.heap.size + 1 := by omega
  have lb3 : b < w.heap.size + 1 + 1 := by omega
  have qA : (((w.alloc (.cells #[.bool g, .int .i64 j, .bool (en 0), .bool (en 1), .bool (en 2), .bool (en 3), .bool (en 4), .bool (en 5), .bool (en 6), .bool (en 7), .bool (en 8), .bool (en 9), .bool r] 62)).alloc (.cells #[.bool false, .int .i64 0, .bool false, .bool false, .bool false, .bool false, .bool false, .bool false, .bool false, .bool false, .bool false, .bool false, .bool false] 62)).alloc (.cells #[.int .i64 6, .int .u64 0, .int .u64 0, .int .u64 0, .int .u64 0, .int .i64 pa, .int .i64 0, .int .i64 m, .int .i64 M, .int .i64 0] 47)).cell? ⟨b, o0 + pa * 10, none⟩ = some (.int .i64 (rk t)) := cell_alloc1 _ (cell_alloc1 _ (cell_alloc1 _ q0))
  go_enter Tryz.func50, Tryz.ntmps50
  go_wp2_with fail
  refine IA1.out.mono ?_
  rintro e W1 ⟨rfl, hB1⟩
  have hS1 := hS0.step hB1
  obtain ⟨v1, hv1, hz1⟩ := hS1.rb
  have hst := hv1.storeC hz1 C hus hua
  have hput := hv1.put C
  have hbp : Below w.heap.size w (W1.setRow (w.heap.size + 1) C) := Below.setRow hS1.b (by omega) _
  go_wp2
  have ql := hput.load hus
  refine bodyPost_ret (v := .agg C) (by simp [results, Tryz.results50, asAddr, Result.andThen, ql]) rfl ⟨rfl, hbp⟩
 have f1 : (rk t == 1) = false := by rw [beq_eq_false_iff_ne]; exact k1
 by_cases k7 : rk t = 7
 ·have f7 : (rk t == 7) = true := by simp [k7]
  rw [show okTimes t = true by rw [ek]; simp [k7], Bool.and_true]
  clear ek hr hra
  have IA := ih o pa ⟨g, j, en, r⟩ _ ha1 hpa (by omega) (by show j + t.size ≤ 1000; omega) (((hw.alloc (.cells #[.bool g, .int .i64 j, .bool (en 0), .bool (en 1), .bool (en 2), .bool (en 3), .bool (en 4), .bool (en 5), .bool (en 6), .bool (en 7), .bool (en 8), .bool (en 9), .bool r] 62)).alloc (.cells #[.bool false, .int .i64 0, .bool false, .bool false, .bool false, .bool false, .bool false, .bool false, .bool false, .bool false, .bool false, .bool false, .bool false] 62)).alloc (.cells #[.int .i64 6, .int .u64 0, .int .u64 0, .int .u64 0, .int .u64 0, .int .i64 pa, .int .i64 0, .int .i64 m, .int .i64 M, .int .i64 0] 47))
  have hS0 : ThS w b o0 xs ⟨6, 0, 0, 0, 0, pa, 0, m, M, 0⟩ ⟨g, j, en, r⟩ (((w.alloc (.cells #[.bool g, .int .i64 j, .bool (en 0), .bool (en 1), .bool (en 2), .bool (en 3), .bool (en 4), .bool (en 5), .bool (en 6), .bool (en 7), .bool (en 8), .bool (en 9), .bool r] 62)).alloc (.cells #[.bool false, .int .i64 0, .bool false, .bool false, .bool false, .bool false, .bool false, .bool false, .bool false, .bool false, .bool false, .bool false, .bool false] 62)).alloc (.cells #[.int .i64 6, .int .u64 0, .int .u64 0, .int .u64 0, .int .u64 0, .int .i64 pa, .int .i64 0, .int .i64 m, .int .i64 M, .int .i64 0] 47)) := ThS.new hw ⟨6, 0, 0, 0, 0, pa, 0, m, M, 0⟩ ⟨g, j, en, r⟩ #[.bool false, .int .i64 0, .bool false, .bool false, .bool false, .bool false, .bool false, .bool false, .bool false, .bool false, .bool false, .bool false, .bool false] rfl
  have hus : (thr (decide (n = 1)) t ⟨g, j, en, r⟩).cells.size = 13 := rfl
  have hua : (thr (decide (n = 1)) t ⟨g, j, en, r⟩).cells.all (·.oneCell') = true := Wk.cells_all _
  generalize (thr (decide (n = 1)) t ⟨g, j, en, r⟩).cells = C at *
  have IA1 := Lib.hid IA
  clear IA
  simp only [Wk.cells] at IA1
  simp only [Wk.cells]
  have lb2 : b < w.heap.size + 1 := by omega
  have lb3 : b < w.heap.size + 1 + 1 := by omega
  have qA : (((w.alloc (.cells #[.bool g, .int .i64 j, .bool (en 0), .bool (en 1), .bool (en 2), .bool (en 3), .bool (en 4), .bool (en 5), .bool (en 6), .bool (en 7), .bool (en 8), .bool (en 9), .bool r] 62)).alloc (.cells #[.bool false, .int .i64 0, .bool false, .bool false, .bool false, .bool false, .bool false, .bool false, .bool false, .bool false, .bool false, .bool false, .bool false] 62)).alloc (.cells #[.int .i64 6, .int .u64 0, .int .u64 0, .int .u64 0, .int .u64 0, .int .i64 pa, .int .i64 0, .int .i64 m, .int .i64 M, .int .i64 0] 47)).cell? ⟨b, o0 + pa * 10, none⟩ = some (.int .i64 (rk t)) := cell_alloc1 _ (cell_alloc1 _ (cell_alloc1 _ q0))
  go_enter Tryz.func50, Tryz.ntmps50
  go_wp2_with fail
  refine IA1.out.mono ?_
  rintro e W1 ⟨rfl, hB1⟩
  have hS1 := hS0.step hB1
  obtain ⟨v1, hv1, hz1⟩ := hS1.rb
  have hst := hv1.storeC hz1 C hus hua
  have hput := hv1.put C
  have hbp : Below w.heap.size w (W1.setRow (w.heap.size + 1) C) := Below.setRow hS1.b (by omega) _
  go_wp2
  have ql := hput.load hus
  refine bodyPost_ret (v := .agg C) (by simp [results, Tryz.results50, asAddr, Result.andThen, ql]) rfl ⟨rfl, hbp⟩
 have f7 : (rk t == 7) = false := by rw [beq_eq_false_iff_ne]; exact k7
 by_cases k8 : rk t = 8
 ·have f8 : (rk t == 8) = true := by simp [k8]
  rw [show okTimes t = true by rw [ek]; simp [k8], Bool.and_true]
  clear ek hr hra
  have IA := ih o pa ⟨g, j, en, r⟩ _ ha1 hpa (by omega) (by show j + t.size ≤ 1000; omega) (((hw.alloc (.cells #[.bool g, .int .i64 j, .bool (en 0), .bool (en 1), .bool (en 2), .bool (en 3), .bool (en 4), .bool (en 5), .bool (en 6), .bool (en 7), .bool (en 8), .bool (en 9), .bool r] 62)).alloc (.cells #[.bool false, .int .i64 0, .bool false, .bool false, .bool false, .bool false, .bool false, .bool false, .bool false, .bool false, .bool false, .bool false, .bool false] 62)).alloc (.cells #[.int .i64 6, .int .u64 0, .int .u64 0, .int .u64 0, .int .u64 0, .int .i64 pa, .int .i64 0, .int .i64 m, .int .i64 M, .int .i64 0] 47))
  have hS0 : ThS w b o0 xs ⟨6, 0, 0, 0, 0, pa, 0, m, M, 0⟩ ⟨g, j, en, r⟩ (((w.alloc (.cells #[.bool g, .int .i64 j, .bool (en 0), .bool (en 1), .bool (en 2), .bool (en 3), .bool (en 4), .bool (en 5), .bool (en 6), .bool (en 7), .bool (en 8), .bool (en 9), .bool r] 62)).alloc (.cells #[.bool false, .int .i64 0, .bool false, .bool false, .bool false, .bool false, .bool false, .bool false, .bool false, .bool false, .bool false, .bool false, .bool false] 62)).alloc (.cells #[.int .i64 6, .int .u64 0, .int .u64 0, .int .u64 0, .int .u64 0, .int .i64 pa, .int .i64 0, .int .i64 m, .int .i64 M, .int .i64 0] 47)) := ThS.new hw ⟨6, 0, 0, 0, 0, pa, 0, m, M, 0⟩ ⟨g, j, en, r⟩ #[.bool false, .int .i64 0, .bool false, .bool false, .bool false, .bool false, .bool false, .bool false, .bool false, .bool false, .bool false, .bool false, .bool false] rfl
  have hus : (thr (decide (n = 1)) t ⟨g, j, en, r⟩).cells.size = 13 := rfl
  have hua : (thr (decide (n = 1)) t ⟨g, j, en, r⟩).cells.all (·.oneCell') = true := Wk.cells_all _
  generalize (thr (decide (n = 1)) t ⟨g, j, en, r⟩).cells = C at *
  have IA1 := Lib.hid IA
  clear IA
  simp only [Wk.cells] at IA1
  simp only [Wk.cells]
  have lb2 : b < w.heap.size + 1 := by omega
  have lb3 : b < w.heap.size + 1 + 1 := by omega
  have qA : (((w.alloc (.cells #[.bool g, .int .i64 j, .bool (en 0), .bool (en 1), .bool (en 2), .bool (en 3), .bool (en 4), .bool (en 5), .bool (en 6), .bool (en 7), .bool (en 8), .bool (en 9), .bool r] 62)).alloc (.cells #[.bool false, .int .i64 0, .bool false, .bool false, .bool false, .bool false, .bool false, .bool false, .bool false, .bool false, .bool false, .bool false, .bool false] 62)).alloc (.cells #[.int .i64 6, .int .u64 0, .int .u64 0, .int .u64 0, .int .u64 0, .int .i64 pa, .int .i64 0, .int .i64 m, .int .i64 M, .int .i64 0] 47)).cell? ⟨b, o0 + pa * 10, none⟩ = some (.int .i64 (rk t)) := cell_alloc1 _ (cell_alloc1 _ (cell_alloc1 _ q0))
  go_enter Tryz.func50, Tryz.ntmps50
  go_wp2_with fail
  refine IA1.out.mono ?_
  rintro e W1 ⟨rfl, hB1⟩
  have hS1 := hS0.step hB1
  obtain ⟨v1, hv1, hz1⟩ := hS1.rb
  have hst := hv1.storeC hz1 C hus hua
  have hput := hv1.put C
  have hbp : Below w.heap.size w (W1.setRow (w.heap.size + 1) C) := Below.setRow hS1.b (by omega) _
  go_wp2
  have ql := hput.load hus
  refine bodyPost_ret (v := .agg C) (by simp [results, Tryz.results50, asAddr, Result.andThen, ql]) rfl ⟨rfl, hbp⟩
 ·have f8 : (rk t == 8) = false := by rw [beq_eq_false_iff_ne]; exact k8
  have g1 : (rk t != 1) = true := by simp [k1]
  have g7 : (rk t != 7) = true := by simp [k7]
  have g8 : (rk t != 8) = true := by simp [k8]
  rw [show okTimes t = false by rw [ek]; simp [k1, k7, k8], Bool.and_false]
  clear ek hr hra
  have IA := ih o pa ⟨false, j, en, r⟩ _ ha1 hpa (by omega) (by show j + t.size ≤ 1000; omega) (((hw.alloc (.cells #[.bool false, .int .i64 j, .bool (en 0), .bool (en 1), .bool (en 2), .bool (en 3), .bool (en 4), .bool (en 5), .bool (en 6), .bool (en 7), .bool (en 8), .bool (en 9), .bool r] 62)).alloc (.cells #[.bool false, .int .i64 0, .bool false, .bool false, .bool false, .bool false, .bool false, .bool false, .bool false, .bool false, .bool false, .bool false, .bool false] 62)).alloc (.cells #[.int .i64 6, .int .u64 0, .int .u64 0, .int .u64 0, .int .u64 0, .int .i64 pa, .int .i64 0, .int .i64 m, .int .i64 M, .int .i64 0] 47))
  have hS0 : ThS w b o0 xs ⟨6, 0, 0, 0, 0, pa, 0, m, M, 0⟩ ⟨false, j, en, r⟩ (((w.alloc (.cells #[.bool false, .int .i64 j, .bool (en 0), .bool (en 1), .bool (en 2), .bool (en 3), .bool (en 4), .bool (en 5), .bool (en 6), .bool (en 7), .bool (en 8), .bool (en 9), .bool r] 62)).alloc (.cells #[.bool false, .int .i64 0, .bool false, .bool false, .bool false, .bool false, .bool false, .bool false, .bool false, .bool false, .bool false, .bool false, .bool false] 62)).alloc (.cells #[.int .i64 6, .int .u64 0, .int .u64 0, .int .u64 0, .int .u64 0, .int .i64 pa, .int .i64 0, .int .i64 m, .int .i64 M, .int .i64 0] 47)) := ThS.new hw ⟨6, 0, 0, 0, 0, pa, 0, m, M, 0⟩ ⟨false, j, en, r⟩ #[.bool false, .int .i64 0, .bool false, .bool false, .bool false, .bool false, .bool false, .bool false, .bool false, .bool false, .bool false, .bool false, .bool false] rfl
  have hus : (thr (decide (n = 1)) t ⟨false, j, en, r⟩).cells.size = 13 := rfl
  have hua : (thr (decide (n = 1)) t ⟨false, j, en, r⟩).cells.all (·.oneCell') = true := Wk.cells_all _
  generalize (thr (decide (n = 1)) t ⟨false, j, en, r⟩).cells = C at *
  have IA1 := Lib.hid IA
  clear IA
  simp only [Wk.cells] at IA1
  simp only [Wk.cells]
  have lb2 : b < w.heap.size + 1 := by omega
  have lb3 : b < w.heap.size + 1 + 1 := by omega
  have qA : (((w.alloc (.cells #[.bool false, .int .i64 j, .bool (en 0), .bool (en 1), .bool (en 2), .bool (en 3), .bool (en 4), .bool (en 5), .bool (en 6), .bool (en 7), .bool (en 8), .bool (en 9), .bool r] 62)).alloc (.cells #[.bool false, .int .i64 0, .bool false, .bool false, .bool false, .bool false, .bool false, .bool false, .bool false, .bool false, .bool false, .bool false, .bool false] 62)).alloc (.cells #[.int .i64 6, .int .u64 0, .int .u64 0, .int .u64 0, .int .u64 0, .int .i64 pa, .int .i64 0, .int .i64 m, .int .i64 M, .int .i64 0] 47)).cell? ⟨b, o0 + pa * 10, none⟩ = some (.int .i64 (rk t)) := cell_alloc1 _ (cell_alloc1 _ (cell_alloc1 _ q0))
  go_enter Tryz.func50, Tryz.ntmps50
  go_wp2_with fail
  refine IA1.out.mono ?_
  rintro e W1 ⟨rfl, hB1⟩
  have hS1 := hS0.step hB1
  obtain ⟨v1, hv1, hz1⟩ := hS1.rb
  have hst := hv1.storeC hz1 C hus hua
  have hput := hv1.put C
  have hbp : Below w.heap.size w (W1.setRow (w.heap.size + 1) C) := Below.setRow hS1.b (by omega) _
  go_wp2
  have ql := hput.load hus
  refine bodyPost_ret (v := .agg C) (by simp [results, Tryz.results50, asAddr, Result.andThen, ql]) rfl ⟨rfl, hbp⟩
end Go.Proofs.YtkcbknfhckomcaaGreatDoor
namespace Go.Proofs.YtkcbknfhckomcaaGreatDoor
open Go.RowKit
theorem T.groups_le : ∀ t : T, t.groups ≤ t.size
 | .leaf _ => by simp [T.groups, T.size]
 | .two _ a b => by have := T.groups_le a; have := T.groups_le b; simp only [T.groups, T.size]; omega
 | .times _ _ t => by have := T.groups_le t; simp only [T.groups, T.size]; omega
 | .group _ t => by have := T.groups_le t; simp only [T.groups, T.size]; omega
theorem NodesAt.setRow {w : World} {b o : Nat} {xs : List Nd} (h : NodesAt w b o xs) {B : Nat} (hb : b ≠ B) (C : Array Value) : NodesAt (w.setRow B C) b o xs := by
 have hk : (w.setRow B C).heap[b]? = w.heap[b]? := by
  show (w.heap.modify B _)[b]? = _
  rw [Array.getElem?_modify, if_neg (fun e => hb e.symm)]
 refine ⟨by have := h.lt; simpa [World.setRow] using this, fun i x hx j v hv => ?_⟩
 have := h.cell i x hx j v hv
 unfold World.cell? at this ⊢
 rw [hk]
 exact this
theorem heap_setRow {w : World} {B k : Nat} (C : Array Value) (hk : k ≠ B) : (w.setRow B C).heap[k]? = w.heap[k]? := by
 show (w.heap.modify B _)[k]? = _
 rw [Array.getElem?_modify, if_neg (fun e => hk e.symm)]
theorem ThS.put {w w1 : World} {b o : Nat} {xs : List Nd} {x : Nd} {W : Wk} (h : ThS w b o xs x W w1) (lb : b < w.heap.size) (C : Array Value) (hc : C.size = 13) : ThS w b o xs x W (w1.setRow (w.heap.size + 1) C) := by
 obtain ⟨v, hv, hz⟩ := h.rb
 exact ⟨h.nodes.setRow (by omega) C, ⟨(heap_setRow C (by omega)).trans h.wb.heap⟩, ⟨C, hv.put C, hc⟩, (heap_setRow C (by omega)).trans h.nb, Below.setRow h.b (by omega) _⟩
theorem thru_two (b o0 n cap : Nat) (xs : List Nd) (hlen : xs.length = n) (hn : n ≤ 120) (kd : Int) (hkd : kd = 4 ∨ kd = 5) (a c : T) (iha : Thru b o0 n cap xs a) (ihc : Thru b o0 n cap xs c) : Thru b o0 n cap xs (T.two kd a c) := by
 rintro o k ⟨g, j, en, r⟩ w ha he hk hj hw
 have hr := ha.root
 rw [show o + (T.two kd a c).size - 1 = k by omega] at hr
 have lb := hw.lt
 have hk1 : (k : Int) < n := by omega
 have ha1 := ha.1
 have hc1 := ha.2.1
 have sa := a.size_pos
 have sc := c.size_pos
 simp only [T.size] at he hj
 simp only [T.root] at hr
 obtain ⟨pa, hpa⟩ : ∃ pa : Nat, o + a.size = pa + 1 := ⟨o + a.size - 1, by omega⟩
 obtain ⟨pc, hpc⟩ : ∃ pc : Nat, o + a.size + c.size = pc + 1 := ⟨o + a.size + c.size - 1, by omega⟩
 rw [show (o : Int) + a.size - 1 = (pa : Int) by omega, show (o : Int) + a.size + c.size - 1 = (pc : Int) by omega] at hr
 have hcell := hw.cell k _ hr
 have d0 : w.cell? ⟨b, o0 + k * 10, none⟩ = some (.int .i64 kd) := hcell 0 _ rfl
 have d1 : w.cell? ⟨b, o0 + k * 10 + 1, none⟩ = some (.int .u64 0) := hcell 1 _ rfl
 have d2 : w.cell? ⟨b, o0 + k * 10 + 2, none⟩ = some (.int .u64 0) := hcell 2 _ rfl
 have d3 : w.cell? ⟨b, o0 + k * 10 + 3, none⟩ = some (.int .u64 0) := hcell 3 _ rfl
 have d4 : w.cell? ⟨b, o0 + k * 10 + 4, none⟩ = some (.int .u64 0) := hcell 4 _ rfl
 have d5 : w.cell? ⟨b, o0 + k * 10 + 5, none⟩ = some (.int .i64 pa) := hcell 5 _ rfl
 have d6 : w.cell? ⟨b, o0 + k * 10 + 6, none⟩ = some (.int .i64 pc) := hcell 6 _ rfl
 have d7 : w.cell? ⟨b, o0 + k * 10 + 7, none⟩ = some (.int .i64 0) := hcell 7 _ rfl
 have d8 : w.cell? ⟨b, o0 + k * 10 + 8, none⟩ = some (.int .i64 0) := hcell 8 _ rfl
 have d9 : w.cell? ⟨b, o0 + k * 10 + 9, none⟩ = some (.int .i64 0) := hcell 9 _ rfl
 have hra := ha1.root
 have hrc := hc1.root
 rw [show o + a.size - 1 = pa by omega] at hra
 rw [show o + a.size + c.size - 1 = pc by omega] at hrc
 have q0 : w.cell? ⟨b, o0 + pa * 10, none⟩ = some (.int .i64 (rk a)) := by rw [← rk_root a o]; exact hw.cell pa _ hra 0 _ rfl
 have q1 : w.cell? ⟨b, o0 + pc * 10, none⟩ = some (.int .i64 (rk c)) := by rw [← rk_root c (o + a.size)]; exact hw.cell pc _ hrc 0 _ rfl
 have hpn : (pa : Int) < n := by omega
 have hpm : (pc : Int) < n := by omega
 have et : ∀ S, thr (decide (n = 1)) (T.two kd a c) S = thr (decide (n = 1)) c (thr (decide (n = 1)) a ⟨S.g && okTwo kd a c, S.k, S.en, S.r⟩) := fun S => rfl
 rw [et]
 obtain ⟨G, hG⟩ : ∃ G : Bool, G = (g && okTwo kd a c) := ⟨_, rfl⟩
 rw [← hG]
 have hc : ((kd == 4) = true ∧ (rk a == 4) = true ∧ G = false) ∨ ((kd == 4) = true ∧ (rk a == 4) = false ∧ (rk a == 5) = true ∧ G = false) ∨ ((kd == 4) = true ∧ (rk a == 4) = false ∧ (rk a == 5) = false ∧ (rk c == 5) = true ∧ G = false) ∨ ((kd == 4) = true ∧ (rk a == 4) = false ∧ (rk a == 5) = false ∧ (rk c == 5) = false ∧ G = g) ∨ ((kd == 4) = false ∧ (kd == 5) = true ∧ (rk a == 5) = true ∧ G = false) ∨ ((kd == 4) = false ∧ (kd == 5) = true ∧ (rk a == 5) = false ∧ G = g) := by
  rcases hkd with rfl | rfl
  ·rw [show okTwo 4 a c = !(decide (rk a = 4) || decide (rk a = 5) || decide (rk c = 5)) from rfl] at hG
   by_cases k4 : rk a = 4
   ·exact Or.inl ⟨rfl, by simp [k4], by simp [hG, k4]⟩
   by_cases k5 : rk a = 5
   ·exact Or.inr (Or.inl ⟨rfl, by simp [k4], by simp [k5], by simp [hG, k5]⟩)
   by_cases k6 : rk c = 5
   ·exact Or.inr (Or.inr (Or.inl ⟨rfl, by simp [k4], by simp [k5], by simp [k6], by simp [hG, k6]⟩))
   ·exact Or.inr (Or.inr (Or.inr (Or.inl ⟨rfl, by simp [k4], by simp [k5], by simp [k6], by simp [hG, k4, k5, k6]⟩)))
  ·rw [show okTwo 5 a c = !decide (rk a = 5) from rfl] at hG
   by_cases k5 : rk a = 5
   ·exact Or.inr (Or.inr (Or.inr (Or.inr (Or.inl ⟨rfl, rfl, by simp [k5], by simp [hG, k5]⟩))))
   ·exact Or.inr (Or.inr (Or.inr (Or.inr (Or.inr ⟨rfl, rfl, by simp [k5], by simp [hG, k5]⟩))))
 clear hG hkd hcell et hr hra hrc
 have IA := fun w' hx => iha o pa ⟨G, j, en, r⟩ w' ha1 hpa (by omega) (by show j + a.size ≤ 1000; omega) hx
 have hS0 : ThS w b o0 xs ⟨kd, 0, 0, 0, 0, pa, pc, 0, 0, 0⟩ ⟨G, j, en, r⟩ (((w.alloc (.cells #[.bool G, .int .i64 j, .bool (en 0), .bool (en 1), .bool (en 2), .bool (en 3), .bool (en 4), .bool (en 5), .bool (en 6), .bool (en 7), .bool (en 8), .bool (en 9), .bool r] 62)).alloc (.cells #[.bool false, .int .i64 0, .bool false, .bool false, .bool false, .bool false, .bool false, .bool false, .bool false, .bool false, .bool false, .bool false, .bool false] 62)).alloc (.cells #[.int .i64 kd, .int .u64 0, .int .u64 0, .int .u64 0, .int .u64 0, .int .i64 pa, .int .i64 pc, .int .i64 0, .int .i64 0, .int .i64 0] 47)) := ThS.new hw ⟨kd, 0, 0, 0, 0, pa, pc, 0, 0, 0⟩ ⟨G, j, en, r⟩ #[.bool false, .int .i64 0, .bool false, .bool false, .bool false, .bool false, .bool false, .bool false, .bool false, .bool false, .bool false, .bool false, .bool false] rfl
 have hU : (thr (decide (n = 1)) a ⟨G, j, en, r⟩).k + c.size ≤ 1000 := by rw [thr_k]; have := T.groups_le a; show j + a.groups + c.size ≤ 1000; omega
 generalize thr (decide (n = 1)) a ⟨G, j, en, r⟩ = U at *
 have IC := fun w' hx => ihc (o + a.size) pc U w' hc1 hpc (by omega) hU hx
 have hus : (thr (decide (n = 1)) c U).cells.size = 13 := rfl
 have hua : (thr (decide (n = 1)) c U).cells.all (·.oneCell') = true := Wk.cells_all _
 generalize (thr (decide (n = 1)) c U).cells = C at *
 have uu : ∃ D, D = U.cells := ⟨_, rfl⟩
 obtain ⟨D, hD⟩ := uu
 rw [← hD] at IA IC
 have IA1 := Lib.hid IA
 have IC1 := Lib.hid IC
 clear IA IC iha ihc hD hU
 simp only [Wk.cells] at IA1
 simp only [Wk.cells]
 have qA : (((w.alloc (.cells #[.bool g, .int .i64 j, .bool (en 0), .bool (en 1), .bool (en 2), .bool (en 3), .bool (en 4), .bool (en 5), .bool (en 6), .bool (en 7), .bool (en 8), .bool (en 9), .bool r] 62)).alloc (.cells #[.bool false, .int .i64 0, .bool false, .bool false, .bool false, .bool false, .bool false, .bool false, .bool false, .bool false, .bool false, .bool false, .bool false] 62)).alloc (.cells #[.int .i64 kd, .int .u64 0, .int .u64 0, .int .u64 0, .int .u64 0, .int .i64 pa, .int .i64 pc, .int .i64 0, .int .i64 0, .int .i64 0] 47)).cell? ⟨b, o0 + pa * 10, none⟩ = some (.int .i64 (rk a)) := cell_alloc1 _ (cell_alloc1 _ (cell_alloc1 _ q0))
 have qC : (((w.alloc (.cells #[.bool g, .int .i64 j, .bool (en 0), .bool (en 1), .bool (en 2), .bool (en 3), .bool (en 4), .bool (en 5), .bool (en 6), .bool (en 7), .bool (en 8), .bool (en 9), .bool r] 62)).alloc (.cells #[.bool false, .int .i64 0, .bool false, .bool false, .bool false, .bool false, .bool false, .bool false, .bool false, .bool false, .bool false, .bool false, .bool false] 62)).alloc (.cells #[.int .i64 kd, .int .u64 0, .int .u64 0, .int .u64 0, .int .u64 0, .int .i64 pa, .int .i64 pc, .int .i64 0, .int .i64 0, .int .i64 0] 47)).cell? ⟨b, o0 + pc * 10, none⟩ = some (.int .i64 (rk c)) := cell_alloc1 _ (cell_alloc1 _ (cell_alloc1 _ q1))
 have lb2 : b < w.heap.size + 1 := by omega
 have lb3 : b < w.heap.size + 1 + 1 := by omega
 rcases hc with ⟨f0, f4, hG⟩ | ⟨f0, f4, f5, hG⟩ | ⟨f0, f4, f5, f6, hG⟩ | ⟨f0, f4, f5, f6, hG⟩ | ⟨f0, f1, f5, hG⟩ | ⟨f0, f1, f5, hG⟩
 all_goals
  have hG1 := Lib.hid hG
  clear hG
  go_enter Tryz.func50, Tryz.ntmps50
  go_wp2_with fail
  refine wp_region_noPanic ?_
  refine wp_region_held_drew (S := ThS w b o0 xs ⟨kd, 0, 0, 0, 0, pa, pc, 0, 0, 0⟩ ⟨G, j, en, r⟩) (by kernel_rfl) ?_ (fun hHeld => ?_)
  ·(try dsimp only); rw [hG1.out] at hS0 ⊢; exact hS0.drew
  refine wpAnyH_take (i := 0) (v := ?_) rfl (by kernel_rfl) (by kernel_rfl) (by kernel_rfl) (fun _ _ _ h => h) (Or.inl ⟨by kernel_rfl, ?_⟩) (by assumption) ?_
  rotate_left
  ·(intro w hSw; (try dsimp only at hSw); go_simp); (try with_reducible rfl)
  try simp only [Act.put, laS]
  refine wpAnyH_take (i := 1) (v := ?_) rfl (by kernel_rfl) (by kernel_rfl) (by kernel_rfl) (fun _ _ _ h => h) (Or.inl ⟨by kernel_rfl, ?_⟩) (by assumption) ?_
  rotate_left
  ·(intro w hSw; (try dsimp only at hSw); go_simp); (try with_reducible rfl)
  try simp only [Act.put, laS]
  refine wpAnyH_take (i := 2) (v := ?_) rfl (by kernel_rfl) (by kernel_rfl) (by kernel_rfl) (fun _ _ _ h => h) (Or.inl ⟨by kernel_rfl, ?_⟩) (by assumption) ?_
  rotate_left
  ·(intro w9 hSw; have z6 : w9.cell? ⟨w.heap.size + 1 + 1, 6, none⟩ = some (.int .i64 pc) := (hSw.ncell 6).trans rfl; go_simp); (try with_reducible rfl)
  try simp only [Act.put, laS]
  refine wpAnyH_take (i := 3) (v := ?_) rfl (by kernel_rfl) (by kernel_rfl) (by kernel_rfl) (fun _ _ _ h => h) (Or.inl ⟨by kernel_rfl, ?_⟩) (by assumption) ?_
  rotate_left
  ·(intro w hSw; (try dsimp only at hSw); go_simp); (try with_reducible rfl)
  try simp only [Act.put, laS]
  refine wpAnyH_take (i := 4) (v := ?_) rfl (by kernel_rfl) (by kernel_rfl) (by kernel_rfl) (fun _ _ _ h => h) (Or.inl ⟨by kernel_rfl, ?_⟩) (by assumption) ?_
  rotate_left
  ·(intro w hSw; (try dsimp only at hSw); go_simp); (try with_reducible rfl)
  try simp only [Act.put, laS]
  refine wpAnyH_take (i := 5) (v := ?_) rfl (by kernel_rfl) (by kernel_rfl) (by kernel_rfl) (fun _ _ _ h => h) (Or.inl ⟨by kernel_rfl, ?_⟩) (by assumption) ?_
  rotate_left
  ·(intro w9 hSw; have z5 : w9.cell? ⟨w.heap.size + 1 + 1, 5, none⟩ = some (.int .i64 pa) := (hSw.ncell 5).trans rfl; go_simp); (try with_reducible rfl)
  try simp only [Act.put, laS]
  refine wpAnyH_take (i := 6) (v := ?_) rfl (by kernel_rfl) (by kernel_rfl) (by kernel_rfl) (fun _ _ _ h => h) (Or.inl ⟨by kernel_rfl, ?_⟩) (by assumption) ?_
  rotate_left
  ·(intro w9 hSw; have y0 : w9.cell? ⟨w.heap.size, 0, none⟩ = some (.bool G) := (hSw.wb.cell 0).trans rfl; have y1 : w9.cell? ⟨w.heap.size, 1, none⟩ = some (.int .i64 j) := (hSw.wb.cell 1).trans rfl; have y2 : w9.cell? ⟨w.heap.size, 2, none⟩ = some (.bool (en 0)) := (hSw.wb.cell 2).trans rfl; have y3 : w9.cell? ⟨w.heap.size, 3, none⟩ = some (.bool (en 1)) := (hSw.wb.cell 3).trans rfl; have y4 : w9.cell? ⟨w.heap.size, 4, none⟩ = some (.bool (en 2)) := (hSw.wb.cell 4).trans rfl; have y5 : w9.cell? ⟨w.heap.size, 5, none⟩ = some (.bool (en 3)) := (hSw.wb.cell 5).trans rfl; have y6 : w9.cell? ⟨w.heap.size, 6, none⟩ = some (.bool (en 4)) := (hSw.wb.cell 6).trans rfl; have y7 : w9.cell? ⟨w.heap.size, 7, none⟩ = some (.bool (en 5)) := (hSw.wb.cell 7).trans rfl; have y8 : w9.cell? ⟨w.heap.size, 8, none⟩ = some (.bool (en 6)) := (hSw.wb.cell 8).trans rfl; have y9 : w9.cell? ⟨w.heap.size, 9, none⟩ = some (.bool (en 7)) := (hSw.wb.cell 9).trans rfl; have y10 : w9.cell? ⟨w.heap.size, 10, none⟩ = some (.bool (en 8)) := (hSw.wb.cell 10).trans rfl; have y11 : w9.cell? ⟨w.heap.size, 11, none⟩ = some (.bool (en 9)) := (hSw.wb.cell 11).trans rfl; have y12 : w9.cell? ⟨w.heap.size, 12, none⟩ = some (.bool r) := (hSw.wb.cell 12).trans rfl; go_simp); (try with_reducible rfl)
  try simp only [Act.put, laS]
  refine wpAnyH_ready (rs := [7]) (by kernel_rfl) (by simp) ?_
  refine AllReadyH.cons rfl (fun K hK => ?_) ?_
  rotate_left
  ·exact AllReadyH.nil
  go_simp
  refine (IA1.out _ hHeld.nodes).mono ?_
  rintro e W1 ⟨rfl, hB⟩
  have hS1 := hHeld.step hB
  clear hB hHeld
  refine hK.out _ _ ?_ (fun hHeld => ?_)
  ·(try dsimp only); exact hS1
  clear hK K
  try simp only [Act.put, laS]
  refine wpAnyH_ready (rs := [8]) (by kernel_rfl) (by simp) ?_
  refine AllReadyH.cons rfl (fun K hK => ?_) ?_
  rotate_left
  ·exact AllReadyH.nil
  go_simp
  refine (IC1.out _ hHeld.nodes).mono ?_
  rintro e W2 ⟨rfl, hB⟩
  have hS2 := hHeld.step hB
  clear hB hHeld
  refine hK.out _ _ ?_ (fun hHeld => ?_)
  ·(try dsimp only); exact hS2
  clear hK K
  try simp only [Act.put, laS]
  obtain ⟨v1, hv1, hz1⟩ := hS2.rb
  have hst := hv1.storeC hz1 C hus hua
  have hput := hv1.put C
  have hS3 := hS2.put lb C hus
  refine wpAnyH_ready (rs := [9]) (by kernel_rfl) (by simp) ?_
  refine AllReadyH.cons rfl (fun K hK => ?_) ?_
  rotate_left
  ·exact AllReadyH.nil
  go_simp
  refine hK.out _ _ ?_ (fun hHeld => ?_)
  ·(try dsimp only); exact hS3
  clear hK K
  try simp only [Act.put, laS]
  refine wpAnyH_done (by kernel_rfl) ?_ _
  refine NoPanic.normal ?_
  go_wp2
  have ql := hput.load hus
  refine bodyPost_ret (v := .agg C) (by simp [results, Tryz.results50, asAddr, Result.andThen, ql]) rfl ⟨rfl, hS3.b⟩
theorem thru_two4 (b o0 n cap : Nat) (xs : List Nd) (hlen : xs.length = n) (hn : n ≤ 120) (a c : T) (iha : Thru b o0 n cap xs a) (ihc : Thru b o0 n cap xs c) : Thru b o0 n cap xs (T.two 4 a c) := thru_two b o0 n cap xs hlen hn 4 (Or.inl rfl) a c iha ihc
theorem thru_two5 (b o0 n cap : Nat) (xs : List Nd) (hlen : xs.length = n) (hn : n ≤ 120) (a c : T) (iha : Thru b o0 n cap xs a) (ihc : Thru b o0 n cap xs c) : Thru b o0 n cap xs (T.two 5 a c) := thru_two b o0 n cap xs hlen hn 5 (Or.inr rfl) a c iha ihc
end Go.Proofs.YtkcbknfhckomcaaGreatDoor
