/- The reference's through: a Group; all. -/
import Derived.Test.YtkcbknfhckomcaaGreatDoorYRxRh
import Derived.Test.YtkcbknfhckomcaaGreatDoorYRxTd
import Derived.Test.YtkcbknfhckomcaaGreatDoorYRxU
import Derived.Test.YtkcbknfhckomcaaGreatDoorYRxTb
import Derived.Test.YtkcbknfhckomcaaGreatDoorYRxRe
import Derived.Test.YtkcbknfhckomcaaGreatDoorYRxRd
import Derived.Test.YtkcbknfhckomcaaGreatDoorYRxSm
import Derived.Test.YtkcbknfhckomcaaGreatDoorYBvQ
import Derived.Test.YtkcbknfhckomcaaGreatDoorYBvP
import Derived.Test.YtkcbknfhckomcaaGreatDoorYSetMn
set_option linter.unusedVariables false
set_option linter.unusedSimpArgs false
set_option maxRecDepth 100000
set_option maxHeartbeats 40000000
namespace Go.Proofs.YtkcbknfhckomcaaGreatDoor
open Go.RowKit
theorem WB.loadAt {w : World} {b : Nat} {v : Array Value} (h : WB w b v) (hs : v.size = 13) : (Instr.loadAt 62 (.pointer (some ⟨b, 0, none⟩))).run Tryz.prog w = .ok (.agg v) w := by
 simp only [Instr.loadAt, Instr.sureAddr, Sem.run_bind, Sem.run_pure, Result.andThen]
 exact h.load hs
theorem wpList_load_wb {ops : Array Oper} {rest : List Oper} {o : Oper} {a : Act} {Q : Exit → Act → World → Prop} {w : World} {b : Nat} {v : Array Value} (h : WB w b v) (hs : v.size = 13) (hgd : o.guard = none) {x : Operand}
  (ho : o.op = .load 62 x) (hx : a.eval x = .pointer (some ⟨b, 0, none⟩)) (hK : wpList Tryz.prog ops Q rest (a.put o.dst (.agg v)) w) : wpList Tryz.prog ops Q (o :: rest) a w := by
 refine wpList_plain hgd fun K hK' => ?_
 unfold Oper.wp execOp
 simp only [ho, hx, h.loadAt hs, Sem.run_bind, Sem.run_pure, Result.andThen_ok]
 exact hK' _ _ hK
theorem Wk.cells_at (U : Wk) {x : Nat} (hx : x < 10) : U.cells[2 + x]? = some (.bool (U.en x)) := by
 rcases (by omega : x = 0 ∨ x = 1 ∨ x = 2 ∨ x = 3 ∨ x = 4 ∨ x = 5 ∨ x = 6 ∨ x = 7 ∨ x = 8 ∨ x = 9) with rfl | rfl | rfl | rfl | rfl | rfl | rfl | rfl | rfl | rfl <;> rfl
theorem Wk.cells_end (U : Wk) {x : Nat} (hx : x < 10) : (Wk.mk U.g U.k (fun i => if i = x then true else U.en i) U.r).cells = U.cells.setIfInBounds (2 + x) (.bool true) := by
 rcases (by omega : x = 0 ∨ x = 1 ∨ x = 2 ∨ x = 3 ∨ x = 4 ∨ x = 5 ∨ x = 6 ∨ x = 7 ∨ x = 8 ∨ x = 9) with rfl | rfl | rfl | rfl | rfl | rfl | rfl | rfl | rfl | rfl <;> rfl
theorem thru_group (b o0 n cap : Nat) (xs : List Nd) (hlen : xs.length = n) (hn : n ≤ 120) (x : Nat) (hx : x < 10) (t : T) (ih : Thru b o0 n cap xs t) : Thru b o0 n cap xs (T.group x t) := by
 rintro o k ⟨g, j, en, r⟩ w ha he hk hj hw
 have hr := ha.root
 rw [show o + (T.group x t).size - 1 = k by omega] at hr
 have lb := hw.lt
 have hk1 : (k : Int) < n := by omega
 have ha1 := ha.1
 have sa := t.size_pos
 simp only [T.size] at he hj
 simp only [T.root] at hr
 obtain ⟨pa, hpa⟩ : ∃ pa : Nat, o + t.size = pa + 1 := ⟨o + t.size - 1, by omega⟩
 rw [show (o : Int) + t.size - 1 = (pa : Int) by omega] at hr
 have hcell := hw.cell k _ hr
 have d0 : w.cell? ⟨b, o0 + k * 10, none⟩ = some (.int .i64 7) := hcell 0 _ rfl
 have d1 : w.cell? ⟨b, o0 + k * 10 + 1, none⟩ = some (.int .u64 0) := hcell 1 _ rfl
 have d2 : w.cell? ⟨b, o0 + k * 10 + 2, none⟩ = some (.int .u64 0) := hcell 2 _ rfl
 have d3 : w.cell? ⟨b, o0 + k * 10 + 3, none⟩ = some (.int .u64 0) := hcell 3 _ rfl
 have d4 : w.cell? ⟨b, o0 + k * 10 + 4, none⟩ = some (.int .u64 0) := hcell 4 _ rfl
 have d5 : w.cell? ⟨b, o0 + k * 10 + 5, none⟩ = some (.int .i64 pa) := hcell 5 _ rfl
 have d6 : w.cell? ⟨b, o0 + k * 10 + 6, none⟩ = some (.int .i64 0) := hcell 6 _ rfl
 have d7 : w.cell? ⟨b, o0 + k * 10 + 7, none⟩ = some (.int .i64 0) := hcell 7 _ rfl
 have d8 : w.cell? ⟨b, o0 + k * 10 + 8, none⟩ = some (.int .i64 0) := hcell 8 _ rfl
 have d9 : w.cell? ⟨b, o0 + k * 10 + 9, none⟩ = some (.int .i64 x) := hcell 9 _ rfl
 have hpn : (pa : Int) < n := by omega
 have hwj : IntKind.i64.wrap ((j : Int) + 1) = (j : Int) + 1 := by simp [IntKind.wrap, IntKind.signed, IntKind.bits]; omega
 have et : thr (decide (n = 1)) (T.group x t) ⟨g, j, en, r⟩ = ⟨(thr (decide (n = 1)) t ⟨g && decide ((j : Int) + 1 = x), j + 1, en, r⟩).g, (thr (decide (n = 1)) t ⟨g && decide ((j : Int) + 1 = x), j + 1, en, r⟩).k, fun i => if i = x then true else (thr (decide (n = 1)) t ⟨g && decide ((j : Int) + 1 = x), j + 1, en, r⟩).en i, (thr (decide (n = 1)) t ⟨g && decide ((j : Int) + 1 = x), j + 1, en, r⟩).r⟩ := rfl
 rw [et]
 obtain ⟨G, hG⟩ : ∃ G : Bool, G = (g && decide ((j : Int) + 1 = x)) := ⟨_, rfl⟩
 rw [← hG]
 clear hcell et hr
 have IA := ih o pa ⟨G, j + 1, en, r⟩ _ ha1 hpa (by omega) (by show j + 1 + t.size ≤ 1000; omega) (((hw.alloc (.cells #[.bool G, .int .i64 ((j : Int) + 1), .bool (en 0), .bool (en 1), .bool (en 2), .bool (en 3), .bool (en 4), .bool (en 5), .bool (en 6), .bool (en 7), .bool (en 8), .bool (en 9), .bool r] 62)).alloc (.cells #[.bool false, .int .i64 0, .bool false, .bool false, .bool false, .bool false, .bool false, .bool false, .bool false, .bool false, .bool false, .bool false, .bool false] 62)).alloc (.cells #[.int .i64 7, .int .u64 0, .int .u64 0, .int .u64 0, .int .u64 0, .int .i64 pa, .int .i64 0, .int .i64 0, .int .i64 0, .int .i64 x] 47))
 have hS0 : ThS w b o0 xs ⟨7, 0, 0, 0, 0, pa, 0, 0, 0, x⟩ ⟨G, j + 1, en, r⟩ (((w.alloc (.cells #[.bool G, .int .i64 ((j : Int) + 1), .bool (en 0), .bool (en 1), .bool (en 2), .bool (en 3), .bool (en 4), .bool (en 5), .bool (en 6), .bool (en 7), .bool (en 8), .bool (en 9), .bool r] 62)).alloc (.cells #[.bool false, .int .i64 0, .bool false, .bool false, .bool false, .bool false, .bool false, .bool false, .bool false, .bool false, .bool false, .bool false, .bool false] 62)).alloc (.cells #[.int .i64 7, .int .u64 0, .int .u64 0, .int .u64 0, .int .u64 0, .int .i64 pa, .int .i64 0, .int .i64 0, .int .i64 0, .int .i64 x] 47)) := ThS.new hw ⟨7, 0, 0, 0, 0, pa, 0, 0, 0, x⟩ ⟨G, j + 1, en, r⟩ #[.bool false, .int .i64 0, .bool false, .bool false, .bool false, .bool false, .bool false, .bool false, .bool false, .bool false, .bool false, .bool false, .bool false] rfl
 generalize thr (decide (n = 1)) t ⟨G, j + 1, en, r⟩ = U at *
 have hus : U.cells.size = 13 := rfl
 have hua : U.cells.all (·.oneCell') = true := Wk.cells_all _
 have hcn : U.cells[2 + x]? = some (.bool (U.en x)) := Wk.cells_at U hx
 have hc2 : (Wk.mk U.g U.k (fun i => if i = x then true else U.en i) U.r).cells = U.cells.setIfInBounds (2 + x) (.bool true) := Wk.cells_end U hx
 rw [hc2]
 have hua2 : (U.cells.setIfInBounds (2 + x) (.bool true)).all (·.oneCell') = true := by rw [← hc2]; exact Wk.cells_all _
 have hus2 : (U.cells.setIfInBounds (2 + x) (.bool true)).size = 13 := by rw [← hc2]; rfl
 generalize U.en x = eN at *
 generalize U.cells = C at *
 have IA1 := Lib.hid IA
 clear IA hc2
 simp only [Wk.cells, Int.natCast_add, Int.natCast_one] at IA1
 simp only [Wk.cells]
 have hc : (G = g ∧ ((j : Int) + 1 == x) = true ∧ ((j : Int) + 1 != x) = false) ∨ (G = false ∧ ((j : Int) + 1 == x) = false ∧ ((j : Int) + 1 != x) = true) := by
  subst hG
  by_cases h : (j : Int) + 1 = x
  ·exact Or.inl ⟨by simp [h], by simp [h], by simp [h]⟩
  ·exact Or.inr ⟨by simp [h], by rw [beq_eq_false_iff_ne]; exact h, by simp [h]⟩
 clear hG
 obtain ⟨rfl, fj, fj2⟩ | ⟨rfl, fj, fj2⟩ := hc
 all_goals
  go_enter Tryz.func50, Tryz.ntmps50
  go_wp2_with fail
  refine IA1.out.mono ?_
  rintro e W1 ⟨rfl, hB1⟩
  have hS1 := hS0.step hB1
  obtain ⟨v1, hv1, hz1⟩ := hS1.rb
  have hst := hS1.wb.storeC rfl C hus hua
  have hp5 := hS1.wb.put C
  have nb5 : (W1.setRow w.heap.size C).heap[w.heap.size + 2]? = _ := (heap_setRow C (by omega)).trans hS1.nb
  have rb5 : WB (W1.setRow w.heap.size C) (w.heap.size + 1) v1 := ⟨(heap_setRow C (by omega)).trans hv1.heap⟩
  have z9 : (W1.setRow w.heap.size C).cell? ⟨w.heap.size + 1 + 1, 9, none⟩ = some (.int .i64 x) := (cell_of _ _ _ _ nb5 9).trans rfl
  have z5 : (W1.setRow w.heap.size C).cell? ⟨w.heap.size, 2 + x, none⟩ = some (.bool eN) := (hp5.cell (2 + x)).trans hcn
  have zf : (W1.setRow w.heap.size C).frozen? ⟨w.heap.size, 2 + x, none⟩ = false := hp5.fz (2 + x)
  have hb5 : Below w.heap.size w (W1.setRow w.heap.size C) := Below.setRow hS1.b (Nat.le_refl _) _
  have h6 : ((W1.setRow w.heap.size C).setCell ⟨w.heap.size, 2 + x, none⟩ (.bool true)).heap[w.heap.size]? = some (.cells (C.setIfInBounds (2 + x) (.bool true)) 62 (0, 0)) := heap_setCell_same _ _ _ _ _ _ hp5.heap
  have wb6 : WB ((W1.setRow w.heap.size C).setCell ⟨w.heap.size, 2 + x, none⟩ (.bool true)) w.heap.size (C.setIfInBounds (2 + x) (.bool true)) := ⟨h6⟩
  have rb6 : WB ((W1.setRow w.heap.size C).setCell ⟨w.heap.size, 2 + x, none⟩ (.bool true)) (w.heap.size + 1) v1 := ⟨(Below.heap_setCell _ _ _ _ (by show w.heap.size + 1 ≠ w.heap.size; omega)).trans rb5.heap⟩
  have hb6 : Below w.heap.size w ((W1.setRow w.heap.size C).setCell ⟨w.heap.size, 2 + x, none⟩ (.bool true)) := hb5.setCell (Nat.le_refl _) _
  generalize hC2 : C.setIfInBounds (2 + x) (.bool true) = C2 at *
  have ql6 := wb6.load hus2
  have hst6 := rb6.storeC hz1 C2 hus2 hua2
  have hput6 := rb6.put C2
  have hbp := Below.setRow hb6 (b := w.heap.size + 1) (by omega) C2
  have HC2 := Lib.hid hC2
  clear hC2 h6 hp5 nb5 rb5 rb6 hb5 hb6 hcn
  go_wp2_with (refine wpList_load_wb wb6 hus2 rfl rfl rfl ?_)
  have ql := hput6.load hus2
  refine bodyPost_ret (v := .agg C2) (by simp [results, Tryz.results50, asAddr, Result.andThen, ql]) rfl ⟨by rw [HC2.out], hbp⟩
theorem thru_all (b o0 n cap : Nat) (xs : List Nd) (hlen : xs.length = n) (hn : n ≤ 120) : ∀ t : T, t.Ok → Thru b o0 n cap xs t
 | .leaf ⟨kd, w0, w1, w2, w3, xa, xb, m, M, xn⟩, h => by
  have hk := h.2
  simp only at hk
  rcases hk with rfl | rfl | rfl | rfl | rfl
  ·exact thru_leaf0 b o0 n cap xs hlen hn w0 w1 w2 w3 xa xb m M xn
  ·exact thru_leaf1 b o0 n cap xs hlen hn w0 w1 w2 w3 xa xb m M xn
  ·exact thru_leaf2 b o0 n cap xs hlen hn w0 w1 w2 w3 xa xb m M xn
  ·exact thru_leaf3 b o0 n cap xs hlen hn w0 w1 w2 w3 xa xb m M xn
  ·have h1 := h.1
   unfold isNd at h1
   rw [if_neg (by simp only; omega), if_neg (by simp only; omega), if_neg (by simp only; omega), if_neg (by simp only; omega), if_neg (by simp only; omega), if_pos rfl, Bool.and_eq_true] at h1
   have hx := num_of h1.1
   simp only at hx
   obtain ⟨x, rfl⟩ : ∃ x : Nat, xn = (x : Int) := ⟨xn.toNat, by omega⟩
   exact thru_leaf8 b o0 n cap xs hlen hn x (by omega) w0 w1 w2 w3 xa xb m M
 | .two k a c, h => by
  rcases h.1 with rfl | rfl
  ·exact thru_two4 b o0 n cap xs hlen hn a c (thru_all b o0 n cap xs hlen hn a h.2.1) (thru_all b o0 n cap xs hlen hn c h.2.2)
  ·exact thru_two5 b o0 n cap xs hlen hn a c (thru_all b o0 n cap xs hlen hn a h.2.1) (thru_all b o0 n cap xs hlen hn c h.2.2)
 | .times m M t, h => thru_times b o0 n cap xs hlen hn m M t (thru_all b o0 n cap xs hlen hn t h.2)
 | .group xn t, h => by
  have hx := num_of h.1
  have ih := thru_all b o0 n cap xs hlen hn t h.2
  obtain ⟨x, rfl⟩ : ∃ x : Nat, xn = (x : Int) := ⟨xn.toNat, by omega⟩
  exact thru_group b o0 n cap xs hlen hn x (by omega) t ih
end Go.Proofs.YtkcbknfhckomcaaGreatDoor
namespace Go.Proofs.YtkcbknfhckomcaaGreatDoor
open Go.RowKit
namespace T
end T
theorem tfits_at {xs : List Nd} (hf : ∀ (i : Nat) (x : Nd), xs[i]? = some x → x.Fits) : ∀ (t : T) (o : Nat), T.At (fun i => xs[i]?) t o → TFits t
 | .leaf x, o, h => hf o x h
 | .two k a b, o, ⟨h1, h2, h3⟩ => ⟨tfits_at hf a o h1, tfits_at hf b _ h2⟩
 | .times m M t, o, ⟨h1, h3⟩ => tfits_at hf t o h1
 | .group n t, o, ⟨h1, h3⟩ => tfits_at hf t o h1
end Go.Proofs.YtkcbknfhckomcaaGreatDoor
namespace Go.Proofs.YtkcbknfhckomcaaGreatDoor
open Go.RowKit
theorem tOk_nodes {xs : List Nd} {one : Bool} (h1 : one = true ↔ xs.length = 1) : ∀ (t : T) (o : Nat), t.Ok → T.At (fun i => xs[i]?) t o → (tOk one t ↔ ∀ i, o ≤ i → i < o + t.size → ∀ x, xs[i]? = some x → pOk xs x)
 | .leaf x, o, ok, ha => by
  have hx : xs[o]? = some x := ha
  have hk := ok.2
  simp only [tOk, T.size]
  constructor
  ·intro h i hi hi2 y hy
   obtain rfl : i = o := by omega
   rw [hx] at hy
   cases hy
   unfold pOk
   by_cases h0 : x.kind = 0
   ·rw [if_pos h0]; exact h1.1 (h h0)
   ·rw [if_neg h0, if_neg (by omega), if_neg (by omega), if_neg (by omega)]
    trivial
  ·intro h h0
   have := h o (by omega) (by omega) x hx
   unfold pOk at this
   rw [if_pos h0] at this
   exact h1.2 this
 | .two k a b, o, ok, ⟨ha, hb, hr⟩ => by
  have iha := tOk_nodes h1 a o ok.2.1 ha
  have ihb := tOk_nodes h1 b (o + a.size) ok.2.2 hb
  have ra := ha.root
  have rb := hb.root
  have sa := a.size_pos
  have sb := b.size_pos
  have ka : kindAt xs ((o : Int) + a.size - 1) = rk a := by
   unfold kindAt
   rw [show ((o : Int) + a.size - 1).toNat = o + a.size - 1 by omega]
   have : xs[o + a.size - 1]? = some (a.root o) := ra
   rw [this]
   exact rk_root a o
  have kb : kindAt xs ((o : Int) + a.size + b.size - 1) = rk b := by
   unfold kindAt
   rw [show ((o : Int) + a.size + b.size - 1).toNat = o + a.size + b.size - 1 by omega]
   have : xs[o + a.size + b.size - 1]? = some (b.root (o + a.size)) := rb
   rw [this]
   exact rk_root b _
  have hroot : pOk xs (T.root (.two k a b) o) ↔ okTwo k a b = true := by
   unfold pOk okTwo
   simp only [T.root, ka, kb]
   rcases ok.1 with rfl | rfl
   ·simp
    constructor
    ·rintro ⟨q1, q2, q3⟩; exact ⟨⟨q1, q2⟩, q3⟩
    ·rintro ⟨⟨q1, q2⟩, q3⟩; exact ⟨q1, q2, q3⟩
   ·simp
  simp only [tOk, T.size]
  rw [iha, ihb, ← hroot]
  constructor
  ·rintro ⟨p1, p2, p3⟩ i hi hi2 x hx
   by_cases c1 : i < o + a.size
   ·exact p2 i hi c1 x hx
   by_cases c2 : i < o + a.size + b.size
   ·exact p3 i (by omega) c2 x hx
   obtain rfl : i = o + a.size + b.size := by omega
   have : xs[o + a.size + b.size]? = some (T.root (.two k a b) o) := hr
   rw [this] at hx
   cases hx
   exact p1
  ·intro h
   refine ⟨h (o + a.size + b.size) (by omega) (by omega) _ hr, fun i hi hi2 => h i hi (by omega), fun i hi hi2 => h i (by omega) (by omega)⟩
 | .times m M t, o, ok, ⟨ha, hr⟩ => by
  have ih := tOk_nodes h1 t o ok.2 ha
  have ra := ha.root
  have sa := t.size_pos
  have ka : kindAt xs ((o : Int) + t.size - 1) = rk t := by
   unfold kindAt
   rw [show ((o : Int) + t.size - 1).toNat = o + t.size - 1 by omega]
   have : xs[o + t.size - 1]? = some (t.root o) := ra
   rw [this]
   exact rk_root t o
  have hroot : pOk xs (T.root (.times m M t) o) ↔ okTimes t = true := by
   unfold pOk okTimes
   simp only [T.root, ka]
   simp
   constructor
   ·rintro (q | q | q)
    ·exact .inl (.inl q)
    ·exact .inl (.inr q)
    ·exact .inr q
   ·rintro ((q | q) | q)
    ·exact .inl q
    ·exact .inr (.inl q)
    ·exact .inr (.inr q)
  simp only [tOk, T.size]
  rw [ih, ← hroot]
  constructor
  ·rintro ⟨p1, p2⟩ i hi hi2 x hx
   by_cases c1 : i < o + t.size
   ·exact p2 i hi c1 x hx
   obtain rfl : i = o + t.size := by omega
   have : xs[o + t.size]? = some (T.root (.times m M t) o) := hr
   rw [this] at hx
   cases hx
   exact p1
  ·intro h
   exact ⟨h (o + t.size) (by omega) (by omega) _ hr, fun i hi hi2 => h i hi (by omega)⟩
 | .group n t, o, ok, ⟨ha, hr⟩ => by
  have ih := tOk_nodes h1 t o ok.2 ha
  have sa := t.size_pos
  have hroot : pOk xs (T.root (.group n t) o) := by
   unfold pOk
   simp only [T.root]
   simp
  simp only [tOk, T.size]
  rw [ih]
  constructor
  ·intro p2 i hi hi2 x hx
   by_cases c1 : i < o + t.size
   ·exact p2 i hi c1 x hx
   obtain rfl : i = o + t.size := by omega
   have : xs[o + t.size]? = some (T.root (.group n t) o) := hr
   rw [this] at hx
   cases hx
   exact hroot
  ·intro h i hi hi2
   exact h i hi (by omega)
def wk0 : Wk := ⟨false, 0, fun _ => false, false⟩
def wk1 : Wk := ⟨true, 0, fun _ => false, false⟩
theorem thr_pat {xs : List Nd} {t : T} (hok : t.Ok) (ha : T.At (fun i => xs[i]?) t 0) (hs : t.size = xs.length) (h120 : xs.length ≤ 120) (hnd : ∀ (i : Nat) (x : Nd), xs[i]? = some x → isNd x = true) : (thr (decide (xs.length = 1)) t wk1).g = true ↔ IsPat xs t := by
 rw [(thr_good _ t wk1).1, tOk_nodes (xs := xs) (by simp) t 0 hok ha]
 constructor
 ·rintro ⟨_, h2, h3⟩
  refine ⟨hok, ha, hs, h120, hnd, fun i x hx => ?_, h3⟩
  have hi : i < xs.length := (List.getElem?_eq_some_iff.1 hx).1
  exact h2 i (by omega) (by omega) x hx
 ·rintro ⟨_, _, _, _, _, h6, h7⟩
  exact ⟨rfl, fun i _ _ x hx => h6 i x hx, h7⟩
end Go.Proofs.YtkcbknfhckomcaaGreatDoor
namespace Go.Proofs.YtkcbknfhckomcaaGreatDoor
open Go.RowKit
theorem WB.storeAt {w : World} {b : Nat} {v : Array Value} (h : WB w b v) (hs : v.size = 13) (C : Array Value) (hc : C.size = 13) (ha : C.all (·.oneCell') = true) : (Instr.storeAt 62 (.pointer (some ⟨b, 0, none⟩)) (.agg C)).run Tryz.prog w = .ok () (w.setRow b C) := by
 simp only [Instr.storeAt, Instr.sureAddr, Sem.run_bind, Sem.run_pure, Result.andThen]
 exact run_storeVar_row (P := Tryz.prog) w b 62 62 v C h.heap (by rw [sizeWk, hc]) (by rw [hs, hc]) ha
theorem wpList_store_wb {ops : Array Oper} {rest : List Oper} {o : Oper} {a : Act} {Q : Exit → Act → World → Prop} {w : World} {b : Nat} {v C : Array Value} (h : WB w b v) (hs : v.size = 13) (hc : C.size = 13) (hall : C.all (·.oneCell') = true) (hgd : o.guard = none) {x y : Operand}
  (ho : o.op = .store 62 x y) (hx : a.eval x = .pointer (some ⟨b, 0, none⟩)) (hy : a.eval y = .agg C) (hK : wpList Tryz.prog ops Q rest (a.put o.dst undef) (w.setRow b C)) : wpList Tryz.prog ops Q (o :: rest) a w := by
 refine wpList_plain hgd fun K hK' => ?_
 unfold Oper.wp execOp
 simp only [ho, hx, hy, h.storeAt hs C hc hall, Sem.run_bind, Sem.run_pure, Result.andThen_ok]
 exact hK' _ _ hK
structure Looks (xs : List Nd) (W : Wk) : Prop where
 g : W.g = true ↔ ∃ t, IsPat xs t
 k : ∀ t, IsPat xs t → W.k = t.groups
 r : ∀ t, IsPat xs t → (W.r = true ↔ 0 < t.refs)
theorem looks_none {xs : List Nd} (h : ¬ ∃ t, IsPat xs t) : Looks xs wk0 := ⟨⟨fun e => (by simp [wk0] at e), fun e => absurd e h⟩, fun t ht => absurd ⟨t, ht⟩ h, fun t ht => absurd ⟨t, ht⟩ h⟩
theorem look_out (p : Option Addr) (n cap : Nat) (xs : List Nd) (hn : n < 1 ∨ 120 < n) (w : World) (h : Nodes w p n xs) :
  Calls Tryz.prog 29 #[.slice p n cap] w fun e w' => (∃ W : Wk, e = .returned (.agg W.cells) ∧ Looks xs W) ∧ Below w.heap.size w w' := by
 have hp : ¬ ∃ t, IsPat xs t := fun ⟨t, ht⟩ => by
  have h1 := ht.2.2.1; have h2 := t.size_pos; have h3 := ht.2.2.2.1; have := h.len
  omega
 have hl := looks_none hp
 have hs := h.small
 have hb : Below w.heap.size w (w.alloc (.cells #[.bool false, .int .i64 0, .bool false, .bool false, .bool false, .bool false, .bool false, .bool false, .bool false, .bool false, .bool false, .bool false, .bool false] 62)) := (Below.refl _ w).alloc (Nat.le_refl _) _
 have hwb : WB (w.alloc (.cells #[.bool false, .int .i64 0, .bool false, .bool false, .bool false, .bool false, .bool false, .bool false, .bool false, .bool false, .bool false, .bool false, .bool false] 62)) w.heap.size #[.bool false, .int .i64 0, .bool false, .bool false, .bool false, .bool false, .bool false, .bool false, .bool false, .bool false, .bool false, .bool false, .bool false] := ⟨heap_new w _⟩
 have ql := hwb.load rfl
 clear h hp hwb
 rcases hn with hn | hn
 ·have h1 : ((n : Int) < 1) = True := by simp; omega
  go_enter Tryz.func29, Tryz.ntmps29
  go_wp2
  refine bodyPost_ret (v := .agg #[.bool false, .int .i64 0, .bool false, .bool false, .bool false, .bool false, .bool false, .bool false, .bool false, .bool false, .bool false, .bool false, .bool false]) (by simp [results, Tryz.results29, asAddr, Result.andThen, Act.put, ql]) rfl ⟨⟨wk0, rfl, hl⟩, hb⟩
 ·have h1 : ((n : Int) < 1) = False := by simp; omega
  have h2 : ((120 : Int) < n) = True := by simp; omega
  go_enter Tryz.func29, Tryz.ntmps29
  go_wp2
  refine bodyPost_ret (v := .agg #[.bool false, .int .i64 0, .bool false, .bool false, .bool false, .bool false, .bool false, .bool false, .bool false, .bool false, .bool false, .bool false, .bool false]) (by simp [results, Tryz.results29, asAddr, Result.andThen, Act.put, ql]) rfl ⟨⟨wk0, rfl, hl⟩, hb⟩
theorem look_in (b o n cap : Nat) (xs : List Nd) (hlen : xs.length = n) (h1 : 1 ≤ n) (hn : n ≤ 120) (hfit : ∀ (i : Nat) (x : Nd), xs[i]? = some x → x.Fits) (w : World) (hx : NodesAt w b o xs) :
  Calls Tryz.prog 29 #[.slice (some ⟨b, o, none⟩) n cap] w fun e w' => (∃ W : Wk, e = .returned (.agg W.cells) ∧ Looks xs W) ∧ Below w.heap.size w w' := by
 have lb := hx.lt
 have g1 : ((n : Int) < 1) = False := by simp; omega
 have g2 : ((120 : Int) < n) = False := by simp; omega
 have hw0 : WB (w.alloc (.cells wk0.cells 62)) w.heap.size wk0.cells := ⟨heap_new w _⟩
 have hb0 : Below w.heap.size w (w.alloc (.cells wk0.cells 62)) := (Below.refl _ w).alloc (Nat.le_refl _) _
 have HF := Lib.hid hfit
 have H0 := Lib.hid hw0
 have B0 := Lib.hid hb0
 clear hfit hw0 hb0
 go_enter Tryz.func29, Tryz.ntmps29
 go_wp2
 go_loopw [3] (fun i wr => ∃ k : Nat, k ≤ n ∧ i = .int .i64 k ∧ (∀ j x, j < k → xs[j]? = some x → isNd x = true) ∧ WB wr w.heap.size wk0.cells ∧ Below w.heap.size w wr) (fun i _ => n - (RowKit.intOf i).toNat)
 case atStart => exact ⟨0, by omega, rfl, fun j x hj => absurd hj (by omega), H0.out, B0.out⟩
 case round =>
  clear H0 B0
  obtain ⟨k, hk, rfl, hall, hwb, hB⟩ := hrel
  by_cases hlt : k < n
  ·obtain ⟨x, hxk⟩ : ∃ x, xs[k]? = some x := ⟨xs[k]'(by omega), List.getElem?_eq_getElem (by omega)⟩
   have hw := hx.below hB hx.lt
   have lB := hB.size
   have d := hw.cell k x hxk
   have FC := Lib.hid (fields_c x (HF.out k x hxk) wr)
   have hklen : (k : Int) < n := by omega
   obtain ⟨q, hq⟩ : ∃ q, q = isNd x := ⟨_, rfl⟩
   rw [← hq] at FC
   have hallk : q = true → ∀ j x, j < k + 1 → xs[j]? = some x → isNd x = true := fun hqt j y hj hy => by
    by_cases e : j = k
    ·subst e; rw [hxk] at hy; cases hy; rw [← hq, hqt]
    ·exact hall j y (by omega) hy
   have hnone : q = false → ¬ ∃ t, IsPat xs t := fun hqf ⟨t, ht⟩ => by
    have := ht.2.2.2.2.1 k x hxk
    rw [← hq, hqf] at this
    cases this
   obtain ⟨kd, w0, w1, w2, w3, xa, xb, m, M, xn⟩ := x
   have d0 : wr.cell? ⟨b, o + k * 10, none⟩ = some (.int .i64 kd) := d 0 _ rfl
   have d1 : wr.cell? ⟨b, o + k * 10 + 1, none⟩ = some (.int .u64 w0) := d 1 _ rfl
   have d2 : wr.cell? ⟨b, o + k * 10 + 2, none⟩ = some (.int .u64 w1) := d 2 _ rfl
   have d3 : wr.cell? ⟨b, o + k * 10 + 3, none⟩ = some (.int .u64 w2) := d 3 _ rfl
   have d4 : wr.cell? ⟨b, o + k * 10 + 4, none⟩ = some (.int .u64 w3) := d 4 _ rfl
   have d5 : wr.cell? ⟨b, o + k * 10 + 5, none⟩ = some (.int .i64 xa) := d 5 _ rfl
   have d6 : wr.cell? ⟨b, o + k * 10 + 6, none⟩ = some (.int .i64 xb) := d 6 _ rfl
   have d7 : wr.cell? ⟨b, o + k * 10 + 7, none⟩ = some (.int .i64 m) := d 7 _ rfl
   have d8 : wr.cell? ⟨b, o + k * 10 + 8, none⟩ = some (.int .i64 M) := d 8 _ rfl
   have d9 : wr.cell? ⟨b, o + k * 10 + 9, none⟩ = some (.int .i64 xn) := d 9 _ rfl
   have HA := Lib.hid hallk
   have HN := Lib.hid hnone
   clear d hw hxk hq hall hallk hnone hx
   cases q
   ·go_wp2_with fail
    refine FC.out.mono ?_
    rintro e W1 ⟨rfl, hB1⟩
    have hwb1 := hwb.below hB1 hwb.lt
    have hB2 := hB.trans (hB1.mono hB.size)
    have hput := hwb1.put wk0.cells
    have hbp := Below.setRow hB2 (Nat.le_refl _) wk0.cells
    go_wp2_with (refine wpList_store_wb (C := wk0.cells) hwb1 rfl rfl (Wk.cells_all _) rfl rfl rfl rfl ?_)
    have ql := hput.load rfl
    refine bodyPost_ret (v := .agg wk0.cells) (by simp [results, Tryz.results29, asAddr, Result.andThen, Act.put, ql]) rfl ⟨⟨wk0, rfl, looks_none (by first | exact HN.out rfl | exact HN.out trivial)⟩, hbp⟩
   ·go_wp2_with fail
    refine FC.out.mono ?_
    rintro e W1 ⟨rfl, hB1⟩
    have hwb1 := hwb.below hB1 hwb.lt
    have hB2 := hB.trans (hB1.mono hB.size)
    go_wp2
    go_roundw
    case rel => exact ⟨k + 1, by omega, by simp, (by first | exact HA.out rfl | exact HA.out trivial), hwb1, hB2⟩
    case measure => (simp [RowKit.intOf]) <;> omega
  ·obtain rfl : k = n := by omega
   have hnd : ∀ (i : Nat) (x : Nd), xs[i]? = some x → isNd x = true := fun i x hi => hall i x (by have := (List.getElem?_eq_some_iff.1 hi).1; omega) hi
   obtain ⟨r, hr0, hr1, hr2, hr3⟩ := first_c b o k cap xs hlen (by omega) hnd (k - 1) (by omega)
   have ek : ((k - 1 : Nat) : Int) = (k : Int) - 1 := by omega
   rw [ek] at hr3
   have FI := Lib.hid (hr3 wr (hx.below hB hx.lt))
   have hlt1 : ((k : Int) < k) = False := by simp
   have hwk : IntKind.i64.wrap ((k : Int) - 1) = (k : Int) - 1 := by simp [IntKind.wrap, IntKind.signed, IntKind.bits]; omega
   by_cases hz : r = 0
   ·have hrz : (r == 0) = true := by simp [hz]
    obtain ⟨t, hok, hat, hsz⟩ := (hr2 0).1 (by simpa using hz)
    have hts : t.size = xs.length := by omega
    have TH := fun w' hx' => thru_all b o k cap xs hlen hn t hok 0 (k - 1) wk1 w' hat (by omega) (by omega) (by show 0 + t.size ≤ 1000; omega) hx'
    have hL : Looks xs (thr (decide (k = 1)) t wk1) := by
     have hp := thr_pat (t := t) hok hat hts (by omega) hnd
     rw [hlen] at hp
     refine ⟨⟨fun h => ⟨t, hp.1 h⟩, fun ⟨t', ht'⟩ => ?_⟩, fun t' ht' => ?_, fun t' ht' => ?_⟩
     ·have e := (T.uniq _ t t' 0 0 hok ht'.1 hat ht'.2.1 (by rw [hts, ht'.2.2.1])).1
      subst e
      exact hp.2 ht'
     ·have e := (T.uniq _ t t' 0 0 hok ht'.1 hat ht'.2.1 (by rw [hts, ht'.2.2.1])).1
      subst e
      rw [thr_k]; show 0 + _ = _; omega
     ·have e := (T.uniq _ t t' 0 0 hok ht'.1 hat ht'.2.1 (by rw [hts, ht'.2.2.1])).1
      subst e
      rw [thr_r]
      simp [wk1]
    rw [ek] at TH
    generalize thr (decide (k = 1)) t wk1 = U at *
    have TH1 := Lib.hid TH
    have hus : U.cells.size = 13 := rfl
    have hua := U.cells_all
    have HL := Lib.hid hL
    clear TH hL hr2 hr3 hnd hall hok hat hsz hts ek
    simp only [Wk.cells, wk1] at TH1
    have TH2 : Hid (∀ (w' : World), NodesAt w' b o xs → Calls Tryz.prog 50 #[.slice (some ⟨b, o, none⟩) k cap, .int .i64 ((k : Int) - 1), .agg #[.bool true, .int .i64 0, .bool false, .bool false, .bool false, .bool false, .bool false, .bool false, .bool false, .bool false, .bool false, .bool false, .bool false]] w' fun e w'' => e = .returned (.agg U.cells) ∧ Below w'.heap.size w' w'') := TH1
    clear TH1
    go_wp2_with fail
    refine FI.out.mono ?_
    rintro e W1 ⟨rfl, hB1⟩
    have hB2 := hB.trans (hB1.mono hB.size)
    have hwb1 := hwb.below hB1 hwb.lt
    clear FI hB1
    go_wp2_with fail
    refine (TH2.out W1 (hx.below hB2 lb)).mono ?_
    rintro e W2 ⟨rfl, hB3⟩
    have hB4 := hB2.trans (hB3.mono hB2.size)
    have hwb2 := hwb1.below hB3 hwb1.lt
    have hput := hwb2.put U.cells
    have hbp := Below.setRow hB4 (Nat.le_refl _) U.cells
    go_wp2_with (refine wpList_store_wb (C := U.cells) hwb2 rfl rfl U.cells_all rfl rfl rfl rfl ?_)
    have ql := hput.load rfl
    refine bodyPost_ret (v := .agg U.cells) (by simp [results, Tryz.results29, asAddr, Result.andThen, Act.put, ql]) rfl ⟨⟨U, rfl, HL.out⟩, hbp⟩
   ·have hrz : (r == 0) = false := by rw [beq_eq_false_iff_ne]; exact hz
    have hp : ¬ ∃ t, IsPat xs t := fun ⟨t, ht⟩ => hz (by
     have := (hr2 0).2 ⟨t, ht.1, ht.2.1, by have := ht.2.2.1; omega⟩
     simpa using this)
    have HL := Lib.hid (looks_none hp)
    clear hr2 hr3 hnd hall hp ek
    go_wp2_with fail
    refine FI.out.mono ?_
    rintro e W1 ⟨rfl, hB1⟩
    have hB2 := hB.trans (hB1.mono hB.size)
    have hwb1 := hwb.below hB1 hwb.lt
    have hput := hwb1.put wk0.cells
    have hbp := Below.setRow hB2 (Nat.le_refl _) wk0.cells
    go_wp2_with (refine wpList_store_wb (C := wk0.cells) hwb1 rfl rfl (Wk.cells_all _) rfl rfl rfl rfl ?_)
    have ql := hput.load rfl
    refine bodyPost_ret (v := .agg wk0.cells) (by simp [results, Tryz.results29, asAddr, Result.andThen, Act.put, ql]) rfl ⟨⟨wk0, rfl, HL.out⟩, hbp⟩
theorem look_c (p : Option Addr) (n cap : Nat) (xs : List Nd) (w : World) (h : Nodes w p n xs) :
  Calls Tryz.prog 29 #[.slice p n cap] w fun e w' => (∃ W : Wk, e = .returned (.agg W.cells) ∧ Looks xs W) ∧ Below w.heap.size w w' := by
 by_cases hn : n < 1 ∨ 120 < n
 ·exact look_out p n cap xs hn w h
 ·obtain ⟨b, o, rfl⟩ := h.ptr (by omega)
  exact look_in b o n cap xs h.len (by omega) (by omega) h.fits w (h.at' (by omega) b o rfl)
theorem rmay_c (p : Option Addr) (n cap : Nat) (xs : List Nd) (r : Bool) (hr : r = true ↔ ∃ t, IsPat xs t) (w : World) (h : Nodes w p n xs) :
  Calls Tryz.prog 14 #[.slice p n cap] w fun e w' => e = .returned (.bool r) ∧ Below w.heap.size w w' := by
 have HL := Lib.hid (look_c p n cap xs w h)
 have HR := Lib.hid hr
 clear hr h
 go_enter Tryz.func14, Tryz.ntmps14
 go_wp2_with fail
 refine HL.out.mono ?_
 rintro e w1 ⟨⟨W, rfl, hW⟩, hB⟩
 have hg : W.g = r := by
  rw [Bool.eq_iff_iff, hW.g, HR.out]
 obtain ⟨g, k, en, r'⟩ := W
 obtain rfl : g = r := hg
 simp only [Wk.cells]
 clear hW HL HR
 have hfd : ∀ w : World, (Instr.field 62 (.agg #[.bool g, .int .i64 k, .bool (en 0), .bool (en 1), .bool (en 2), .bool (en 3), .bool (en 4), .bool (en 5), .bool (en 6), .bool (en 7), .bool (en 8), .bool (en 9), .bool r']) 0).run Tryz.prog w = .ok (.bool g) w := fun _ => by kernel_rfl
 go_wp2
 go_ret
 exact ⟨rfl, hB⟩
end Go.Proofs.YtkcbknfhckomcaaGreatDoor
namespace Go.Proofs.YtkcbknfhckomcaaGreatDoor
open Go.RowKit Go.Lib
theorem rparse_n (l : List UInt8) (hs : l.length ≤ 100000) : ∃ (a z : Int) (r : Bool), (z == 0) = r ∧ (r = false → parsedL l = []) ∧
  (∀ w, Calls Tryz.prog 16 #[.string ⟨l.toArray⟩] w fun e w' => (∃ p n cap, e = .returned (.tuple #[.slice p n cap, .int .i64 a, .int .i64 z]) ∧ Nodes w' p n (parsedL l)) ∧ Below w.heap.size w w') := by
 have h2 := fun w => rparse_c l hs w
 cases hq : wholeP l with
 | ok q =>
  have hp : parsedL l = q.l := by unfold parsedL; rw [hq]
  refine ⟨0, 0, true, rfl, fun h => (by cases h), fun w => (h2 w).mono ?_⟩
  rintro e w' ⟨hout, hB⟩
  have hu : parseU l = .ok q.l := by rw [parse_same, hq]
  unfold PUOut at hout
  rw [hu] at hout
  obtain ⟨p, n, cap, he, hN⟩ := hout
  exact ⟨⟨p, n, cap, he, by rw [hp]; exact hN⟩, hB⟩
 | error er =>
  obtain ⟨z, a⟩ := er
  have hp : parsedL l = [] := by unfold parsedL; rw [hq]
  have hz := (wholeP_er l (z, a) hq).2
  simp only at hz
  have z0 : (z == 0) = false := by rw [beq_eq_false_iff_ne]; omega
  have hnil : ∀ w', Nodes w' none 0 (parsedL l) := fun w' => by rw [hp]; exact ⟨rfl, by omega, fun h => by omega, fun h => by omega, fun i x hx => by simp at hx⟩
  refine ⟨a, z, false, z0, fun _ => hp, fun w => (h2 w).mono ?_⟩
  rintro e w' ⟨hout, hB⟩
  have hu : parseU l = .error (z, a) := by rw [parse_same, hq]
  unfold PUOut at hout
  rw [hu] at hout
  exact ⟨⟨none, 0, 0, hout, hnil w'⟩, hB⟩
theorem rprintU_out (p : Option Addr) (n cap : Nat) (xs : List Nd) (hp : ¬ ∃ t, IsPat xs t) (w : World) (h : Nodes w p n xs) :
  Calls Tryz.prog 6 #[.slice p n cap] w fun e w' => e = .returned (.tuple #[.string ⟨#[]⟩, .int .i64 1]) ∧ Below w.heap.size w w' := by
 have HM := Lib.hid (rmay_c p n cap xs false ⟨fun h => absurd h (by decide), fun h => absurd h hp⟩ w h)
 clear hp
 go_enter Tryz.func6, Tryz.ntmps6
 go_wp2_with fail
 refine HM.out.mono ?_
 rintro e w1 ⟨rfl, hB1⟩
 go_wp2
 refine bodyPost_ret (v := .tuple #[.string ⟨#[]⟩, .int .i64 1]) (by simp [results, Tryz.results6, go_sem]) rfl ?_
 exact ⟨rfl, hB1⟩
theorem rprintU_in (b o n cap : Nat) (xs : List Nd) (t : T) (hp : IsPat xs t) (hlen : xs.length = n) (hfit : ∀ (i : Nat) (x : Nd), xs[i]? = some x → x.Fits) (w : World) (hx : NodesAt w b o xs) :
  Calls Tryz.prog 6 #[.slice (some ⟨b, o, none⟩) n cap] w fun e w' => e = .returned (.tuple #[.string ⟨(if printsP xs t then textT t else []).toArray⟩, .int .i64 (if printsP xs t then 0 else 1)]) ∧ Below w.heap.size w w' := by
 have hsz := hp.2.2.1
 have hn := hp.2.2.2.1
 have tp := t.size_pos
 obtain ⟨k, rfl⟩ : ∃ k, n = k + 1 := ⟨n - 1, by omega⟩
 have hnodes : ∀ w', NodesAt w' b o xs → Nodes w' (some ⟨b, o, none⟩) (k + 1) xs := fun w' h => ⟨hlen, by omega, fun _ => ⟨b, o, rfl⟩, fun _ b' o' e => by
  simp only [Option.some.injEq, Addr.mk.injEq] at e
  obtain ⟨rfl, rfl, _⟩ := e
  exact h, hfit⟩
 have HM := Lib.hid (rmay_c (some ⟨b, o, none⟩) (k + 1) cap xs true ⟨fun _ => ⟨t, hp⟩, fun _ => rfl⟩ w (hnodes w hx))
 have HT := Lib.hid fun w x => rprint_all b o (k + 1) cap xs (by omega) t hp.1 (tfits_at hfit t 0 hp.2.1) (by omega) 0 k w hp.2.1 (by omega) (by omega) x
 have htl := textT_len t hp.1
 obtain ⟨a, z, r, hzr, hnil, hB⟩ := rparse_n (textT t) (by omega)
 have hpp : printsP xs t = decide (parsedL (textT t) = xs) := rfl
 have hxe : xs ≠ [] := fun e => by rw [e] at hlen; simp at hlen
 have hprf : r = false → printsP xs t = false := fun h => by
  rw [hpp, hnil h]
  exact decide_eq_false (fun e => hxe e.symm)
 have HP := Lib.hid hB
 have hsm : ∀ q m c c' w, Nodes w q m (parsedL (textT t)) → Nodes w (some ⟨b, o, none⟩) (k + 1) xs → Calls Tryz.prog 17 #[.slice q m c, .slice (some ⟨b, o, none⟩) (k + 1) c'] w fun e w' => e = .returned (.bool (printsP xs t)) ∧ Below w.heap.size w w' := fun q m c c' w h h' =>
  same_c q (some ⟨b, o, none⟩) m (k + 1) c c' _ _ _ (by rw [hpp, decide_eq_true_eq]) w h h'
 have HSM := Lib.hid hsm
 have HX := Lib.hid hx
 have HN := Lib.hid hnodes
 have HPF := Lib.hid hprf
 have hz1 : (z != 0) = !r := by rw [bne, hzr]
 have ek : ((k + 1 : Nat) : Int) - 1 = (k : Int) := by omega
 generalize printsP xs t = v at *
 generalize parsedL (textT t) = ys at *
 generalize textT t = s at *
 clear hpp hp hsz hfit hnodes hx hsm hB hprf hnil htl hxe
 go_enter Tryz.func6, Tryz.ntmps6
 go_wp2_with fail
 refine HM.out.mono ?_
 rintro e w1 ⟨rfl, hB1⟩
 have hx1 := HX.out.below hB1 HX.out.lt
 go_wp2_with fail
 refine (HT.out _ hx1).mono ?_
 rintro e w2 ⟨rfl, hB2⟩
 have hx2 := hx1.below hB2 hx1.lt
 have hb2 := hB1.trans (hB2.mono hB1.size)
 clear hx1 hB1 hB2 HM HT
 go_wp2_with fail
 refine (HP.out _).mono ?_
 rintro e w3 ⟨⟨q, m, c, rfl, hN⟩, hB3⟩
 have hx3 := hx2.below hB3 hx2.lt
 have hb3 := hb2.trans (hB3.mono hb2.size)
 have HE3 := Lib.hid (HSM.out q m c cap w3 hN (HN.out _ hx3))
 clear hB3 hx2 hb2 HP HSM hN HN HX hx3
 cases r with
 | false =>
  obtain rfl := HPF.out rfl
  have hz2 : (z != 0) = true := hz1
  clear hz1 HE3
  go_wp2_with fail
  refine bodyPost_ret (v := .tuple #[.string ⟨#[]⟩, .int .i64 1]) (by simp [results, Tryz.results6, go_sem]) rfl ?_
  exact ⟨rfl, hb3⟩
 | true =>
  have hz2 : (z != 0) = false := hz1
  clear hz1
  go_wp2_with fail
  refine HE3.out.mono ?_
  rintro e w4 ⟨rfl, hB4⟩
  have hb4 := hb3.trans (hB4.mono hb3.size)
  clear HE3 hB4 hb3 HPF
  cases v with
  | true =>
   go_wp2
   refine bodyPost_ret (v := .tuple #[.string ⟨s.toArray⟩, .int .i64 0]) (by simp [results, Tryz.results6, go_sem]) rfl ?_
   exact ⟨rfl, hb4⟩
  | false =>
   go_wp2
   refine bodyPost_ret (v := .tuple #[.string ⟨#[]⟩, .int .i64 1]) (by simp [results, Tryz.results6, go_sem]) rfl ?_
   exact ⟨rfl, hb4⟩
theorem print_both (p : Option Addr) (n : Nat) (xs : List Nd) : ∃ (S : List UInt8) (z : Int),
  (∀ cap w, Fit5 w → Nodes w p n xs → Calls Tryz.prog 5 #[.slice p n cap] w fun e w' => e = .returned (.tuple #[.string ⟨S.toArray⟩, .int .i64 z]) ∧ Below w.heap.size w w') ∧
  (∀ q cap w, Nodes w q n xs → Calls Tryz.prog 6 #[.slice q n cap] w fun e w' => e = .returned (.tuple #[.string ⟨S.toArray⟩, .int .i64 z]) ∧ Below w.heap.size w w') := by
 by_cases hp : ∃ t, IsPat xs t
 ·obtain ⟨t, ht⟩ := hp
  have hsz := ht.2.2.1
  have tp := t.size_pos
  refine ⟨if printsP xs t then textT t else [], if printsP xs t then 0 else 1, fun cap w hw hN => ?_, fun q cap w hN => ?_⟩
  ·have hl := hN.len
   obtain ⟨b, o, rfl⟩ := hN.ptr (by omega)
   exact print_in b o n cap xs t ht hl hN.fits w hw (hN.at' (by omega) b o rfl)
  ·have hl := hN.len
   obtain ⟨b, o, rfl⟩ := hN.ptr (by omega)
   exact rprintU_in b o n cap xs t ht hl hN.fits w (hN.at' (by omega) b o rfl)
 ·exact ⟨[], 1, fun cap w hw hN => print_out p n cap xs hp w hN, fun q cap w hN => rprintU_out q n cap xs hp w hN⟩
theorem brePrintsB (p : Option Addr) (n cap : Nat) (xs : List Nd) (w : World) (hN : Nodes w p n xs) (hw : Fit5 w) :
  Calls Tryz.prog 3 #[.slice p n cap] w fun e w' => e = .returned (.bool true) ∧ Below w.heap.size w w' := by
 have HSN := Lib.hid (shown4_c w hw)
 have HW := Lib.hid hw
 have N0 := Lib.hid hN
 obtain ⟨S, z, hA, hB⟩ := print_both p n xs
 have HA := Lib.hid hA
 have HBP := Lib.hid hB
 clear hA hB hw hN
 by_cases h130 : 130 < n
 ·have h1 : ((130 : Int) < n) = True := by simp; omega
  clear HA HBP N0 HW
  go_enter Tryz.func3, Tryz.ntmps3
  go_wp2_with fail
  refine HSN.out.mono ?_
  rintro e w1 ⟨rfl, hB1⟩
  go_wp2
  go_ret
  exact ⟨rfl, hB1⟩
 ·have h1 : ((130 : Int) < n) = False := by simp; omega
  go_enter Tryz.func3, Tryz.ntmps3
  go_wp2_with fail
  refine HSN.out.mono ?_
  rintro e w1 ⟨rfl, hB1⟩
  have F1 := Lib.hid (HW.out.below hB1)
  have N1 := Lib.hid (N0.out.below hB1)
  have B1 := Lib.hid hB1
  clear hB1 HSN HW N0
  go_wp2_with fail
  refine (HA.out cap _ F1.out N1.out).mono ?_
  rintro e w2 ⟨rfl, hB2⟩
  have N2 := Lib.hid (N1.out.below hB2)
  have B2 := Lib.hid (B1.out.trans (hB2.mono B1.out.size))
  clear hB2 B1 F1 N1 HA
  go_wp2_with fail
  refine (its4_n p n cap xs (by omega) _ N2.out).mono ?_
  rintro e w3 ⟨⟨q, cap3, rfl, hN3⟩, hB3⟩
  have N3 := Lib.hid hN3
  have B3 := Lib.hid (B2.out.trans (hB3.mono B2.out.size))
  clear hB3 B2 hN3 N2
  go_wp2_with fail
  refine (HBP.out q cap3 _ N3.out).mono ?_
  rintro e w4 ⟨rfl, hB4⟩
  have B4 := Lib.hid (B3.out.trans (hB4.mono B3.out.size))
  clear hB4 B3 N3 HBP
  go_wp2
  go_ret
  exact ⟨rfl, B4.out⟩
end Go.Proofs.YtkcbknfhckomcaaGreatDoor
