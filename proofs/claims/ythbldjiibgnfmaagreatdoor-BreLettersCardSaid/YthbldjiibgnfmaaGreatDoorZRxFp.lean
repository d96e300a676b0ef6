/- The reference's text. -/
import Derived.Test.YthbldjiibgnfmaaGreatDoorZRxRb
import Derived.Test.YthbldjiibgnfmaaGreatDoorZRxIt
import Derived.Test.YthbldjiibgnfmaaGreatDoorZRxL
import Derived.Test.YthbldjiibgnfmaaGreatDoorZSetJ
import Derived.Deep.RegionHeld3
import Derived.Test.YthbldjiibgnfmaaGreatDoorZRxTl
import Derived.Test.YthbldjiibgnfmaaGreatDoorZRxTd
import Derived.Test.YthbldjiibgnfmaaGreatDoorZRxU
namespace Go.Proofs.YthbldjiibgnfmaaGreatDoor
open Go.RowKit Go.Lib
set_option linter.unusedVariables false
set_option linter.unusedSimpArgs false

section
variable {w w1 w2 : World} {b o : Nat} {xs : List Nd} {x : Nd}
end

/-- What text answers at a tree that ends at k. -/
def RTells (b o0 n cap : Nat) (xs : List Nd) (t : T) : Prop := ∀ (o k : Nat) (w : World), T.At (fun i => xs[i]?) t o → o + t.size = k + 1 → k < n → NodesAt w b o0 xs →
  Calls Tryz.prog 35 #[.slice (some ⟨b, o0, none⟩) n cap, .int .i64 (k : Int)] w fun e w' => e = .returned (.string ⟨(text t).toArray⟩) ∧ Below w.heap.size w w'

set_option maxRecDepth 100000 in
set_option maxHeartbeats 8000000 in
theorem rtells_leaf1 (b o0 n cap : Nat) (xs : List Nd) (hn : n ≤ 120) (w0 w1 w2 w3 : Nat) (xa xb m M xn : Int) (hx : Nd.Fits ⟨1, w0, w1, w2, w3, xa, xb, m, M, xn⟩) : RTells b o0 n cap xs (T.leaf ⟨1, w0, w1, w2, w3, xa, xb, m, M, xn⟩) := by
  intro o k w ha he hk hw
  have hr := ha.root
  rw [show o + (T.leaf ⟨1, w0, w1, w2, w3, xa, xb, m, M, xn⟩).size - 1 = k by omega] at hr
  have lb := hw.lt
  have hk1 : (k : Int) < n := by omega
  have hcell := hw.cell k _ hr
  have d0 : w.cell? ⟨b, o0 + k * 10, none⟩ = some (.int .i64 1) := hcell 0 _ rfl
  have d1 : w.cell? ⟨b, o0 + k * 10 + 1, none⟩ = some (.int .u64 w0) := hcell 1 _ rfl
  have d2 : w.cell? ⟨b, o0 + k * 10 + 2, none⟩ = some (.int .u64 w1) := hcell 2 _ rfl
  have d3 : w.cell? ⟨b, o0 + k * 10 + 3, none⟩ = some (.int .u64 w2) := hcell 3 _ rfl
  have d4 : w.cell? ⟨b, o0 + k * 10 + 4, none⟩ = some (.int .u64 w3) := hcell 4 _ rfl
  have d5 : w.cell? ⟨b, o0 + k * 10 + 5, none⟩ = some (.int .i64 xa) := hcell 5 _ rfl
  have d6 : w.cell? ⟨b, o0 + k * 10 + 6, none⟩ = some (.int .i64 xb) := hcell 6 _ rfl
  have d7 : w.cell? ⟨b, o0 + k * 10 + 7, none⟩ = some (.int .i64 m) := hcell 7 _ rfl
  have d8 : w.cell? ⟨b, o0 + k * 10 + 8, none⟩ = some (.int .i64 M) := hcell 8 _ rfl
  have d9 : w.cell? ⟨b, o0 + k * 10 + 9, none⟩ = some (.int .i64 xn) := hcell 9 _ rfl
  obtain ⟨a0, a1, a2, a3⟩ := ofWords_wd hx.s0 hx.s1 hx.s2 hx.s3
  obtain ⟨s, hs⟩ : ∃ s, s = Nd.set ⟨1, w0, w1, w2, w3, xa, xb, m, M, xn⟩ := ⟨_, rfl⟩
  have s0 : wd s 0 = w0 := by rw [hs]; exact a0
  have s1 : wd s 1 = w1 := by rw [hs]; exact a1
  have s2 : wd s 2 = w2 := by rw [hs]; exact a2
  have s3 : wd s 3 = w3 := by rw [hs]; exact a3
  have e : text (T.leaf ⟨1, w0, w1, w2, w3, xa, xb, m, M, xn⟩) = 91 :: (hexl (bytesOf s).data.toList ++ [93]) := by rw [hs]; rfl
  rw [e]
  have hbl : (bytesOf s).data.toList.length ≤ 256 := by
    have := bytesOf_size s
    have h2 : (bytesOf s).data.toList.length = (bytesOf s).size := by simp
    rw [h2, this]
    exact cnt_le s 256
  have HT := Lib.hid fun w' => told0_c s w'
  have HB := Lib.hid fun w' => rbytes_c s w'
  have HH := Lib.hid fun w' => hex_c (bytesOf s).data.toList (by omega) w'
  unfold sv at HT
  rw [s0, s1, s2, s3] at HT
  have eb : (⟨(bytesOf s).data.toList.toArray⟩ : ByteArray) = bytesOf s := rfl
  rw [eb] at HH
  have hL : (hexl (bytesOf s).data.toList).length ≤ 512 := by rw [hexl_len]; omega
  clear hcell hr ha a0 a1 a2 a3 s0 s1 s2 s3 hs e eb hx
  generalize hexl (bytesOf s).data.toList = hx at *
  have hL1 : (9223372036854775807 < hx.length + 1) = False := by simp; omega
  have hL2 : (9223372036854775807 < 1 + hx.length) = False := by simp; omega
  have hL3 : (9223372036854775807 < 1 + hx.length + 1) = False := by simp; omega
  have hL4 : (9223372036854775807 < hx.length + 1 + 1) = False := by simp; omega
  go_enter Tryz.func35, Tryz.ntmps35
  go_wp2_with fail
  refine (HT.out _).mono ?_
  rintro e W1 ⟨rfl, hB1⟩
  go_wp2_with fail
  refine (HB.out W1).mono ?_
  rintro e W2 ⟨rfl, hB2⟩
  go_wp2_with fail
  refine (HH.out W2).mono ?_
  rintro e W3 ⟨rfl, hB3⟩
  have b0 : Below w.heap.size w (w.alloc (.cells #[.int .i64 1, .int .u64 w0, .int .u64 w1, .int .u64 w2, .int .u64 w3, .int .i64 xa, .int .i64 xb, .int .i64 m, .int .i64 M, .int .i64 xn] 47)) := (Below.refl _ w).alloc (Nat.le_refl _) _
  have b1 := b0.trans (hB1.mono b0.size)
  have b2 := b1.trans (hB2.mono b1.size)
  have b3 := b2.trans (hB3.mono b2.size)
  go_wp2
  go_ret
  refine ⟨?_, b3⟩
  have := app3 [91] hx [93]
  simpa using this

end Go.Proofs.YthbldjiibgnfmaaGreatDoor

namespace Go.Proofs.YthbldjiibgnfmaaGreatDoor
open Go.RowKit
set_option linter.unusedVariables false
set_option linter.unusedSimpArgs false

/-- What is found on the way. -/
structure Wk where
  g : Bool
  k : Nat
  en : Nat → Bool
  r : Bool
def Wk.cells (W : Wk) : Array Value := #[.bool W.g, .int .i64 W.k, .bool (W.en 0), .bool (W.en 1), .bool (W.en 2), .bool (W.en 3), .bool (W.en 4), .bool (W.en 5), .bool (W.en 6), .bool (W.en 7), .bool (W.en 8), .bool (W.en 9), .bool W.r]
theorem infoWk : (Tryz.prog.info? 97).map (fun i => (i.zero, i.size)) = some (some (.agg #[.bool false, .int .i64 0, .bool false, .bool false, .bool false, .bool false, .bool false, .bool false, .bool false, .bool false, .bool false, .bool false, .bool false]), 13) := by kernel_rfl
theorem sizeWk : (Tryz.prog.info? 97).map (·.size) = some 13 := (zero_of_info infoWk).2
theorem Wk.cells_size (W : Wk) : W.cells.size = 13 := rfl
theorem Wk.cells_all (W : Wk) : W.cells.all (·.oneCell') = true := by simp [Wk.cells, Value.oneCell']

/-- Block b holds a walk's cells. -/
structure WB (w : World) (b : Nat) (v : Array Value) : Prop where
  heap : w.heap[b]? = some (.cells v 97 (0, 0))
section
variable {w w' : World} {b : Nat} {v : Array Value}
theorem WB.lt (h : WB w b v) : b < w.heap.size := (Array.getElem?_eq_some_iff.1 h.heap).1
theorem WB.below {B : Nat} (h : WB w b v) (hB : Below B w w') (hb : b < B) : WB w' b v := ⟨(hB.block b hb).trans h.heap⟩
theorem WB.load (h : WB w b v) (hs : v.size = 13) : (loadVar 97 ⟨b, 0, none⟩).run Tryz.prog w = .ok (.agg v) w :=
  run_loadVar_row w b 97 97 v (0, 0) _ h.heap Tryz.underlying97 rfl (by rw [sizeWk, hs])
theorem WB.store (h : WB w b v) (hs : v.size = 13) (W : Wk) : (storeVar 97 ⟨b, 0, none⟩ (.agg W.cells)).run Tryz.prog w = .ok () (w.setRow b W.cells) :=
  run_storeVar_row w b 97 97 v W.cells h.heap (by rw [sizeWk, W.cells_size]) (by rw [hs, W.cells_size]) W.cells_all
theorem WB.storeCells (h : WB w b v) (hs : v.size = 13) (W : Wk) : (storeCells ⟨b, 0, none⟩ W.cells.toList).run Tryz.prog w = .ok () (w.setRow b W.cells) := by
  have := h.store hs W
  have hz := sizeWk
  cases hq : Tryz.prog.info? 97 with
  | none => simp [hq] at hz
  | some i =>
    have h2 : i.size = 13 := by simpa [hq] using hz
    simpa [storeVar, sizeOf, typeInfo, hq, Value.cells, h2, W.cells_size] using this
theorem WB.put (h : WB w b v) (v' : Array Value) : WB (w.setRow b v') b v' := ⟨by
  obtain ⟨hlt, hk⟩ := Array.getElem?_eq_some_iff.1 h.heap
  show (w.heap.modify b _)[b]? = _
  rw [Array.getElem?_eq_getElem (by rw [Array.size_modify]; exact hlt), Array.getElem_modify_self, hk]⟩
theorem WB.cell (h : WB w b v) (j : Nat) : w.cell? ⟨b, j, none⟩ = v[j]? := cell_of _ _ _ _ h.heap j
theorem WB.fz (h : WB w b v) (j : Nat) : w.frozen? ⟨b, j, none⟩ = false := frozen_of _ _ _ _ h.heap j
end

/-- The kind of a tree's root. -/
def rk : T → Int
  | .leaf x => x.kind
  | .two k _ _ => k
  | .times _ _ _ => 6
  | .group _ _ => 7
theorem rk_root (t : T) (o : Nat) : (t.root o).kind = rk t := by cases t <;> rfl
def okTwo (k : Int) (a b : T) : Bool := if k = 4 then !(decide (rk a = 4) || decide (rk a = 5) || decide (rk b = 5)) else !decide (rk a = 5)
def okTimes (t : T) : Bool := decide (rk t = 1) || decide (rk t = 7) || decide (rk t = 8)
/-- What through finds in a tree. -/
def thr (one : Bool) : T → Wk → Wk
  | .leaf x, W => if x.kind = 8 then ⟨W.g && W.en x.n.toNat, W.k, W.en, true⟩ else if x.kind = 0 then ⟨W.g && one, W.k, W.en, W.r⟩ else W
  | .two k a b, W => thr one b (thr one a ⟨W.g && okTwo k a b, W.k, W.en, W.r⟩)
  | .times m M t, W => thr one t ⟨W.g && okTimes t, W.k, W.en, W.r⟩
  | .group n t, W => ⟨(thr one t ⟨W.g && decide (((W.k : Int) + 1) = n), W.k + 1, W.en, W.r⟩).g, (thr one t ⟨W.g && decide (((W.k : Int) + 1) = n), W.k + 1, W.en, W.r⟩).k, fun i => if i = n.toNat then true else (thr one t ⟨W.g && decide (((W.k : Int) + 1) = n), W.k + 1, W.en, W.r⟩).en i, (thr one t ⟨W.g && decide (((W.k : Int) + 1) = n), W.k + 1, W.en, W.r⟩).r⟩

/-- What a tree's nodes must keep to where they stand. -/
def tOk (one : Bool) : T → Prop
  | .leaf x => x.kind = 0 → one = true
  | .two k a b => okTwo k a b = true ∧ tOk one a ∧ tOk one b
  | .times m M t => okTimes t = true ∧ tOk one t
  | .group n t => tOk one t
theorem thr_k (one : Bool) : ∀ (t : T) (W : Wk), (thr one t W).k = W.k + t.groups
  | .leaf x, W => by
    simp only [thr, T.groups]
    split
    · rfl
    · split <;> rfl
  | .two k a b, W => by simp only [thr, T.groups, thr_k one a, thr_k one b]; omega
  | .times m M t, W => by simp only [thr, T.groups, thr_k one t]
  | .group n t, W => by simp only [thr, T.groups, thr_k one t]; omega
theorem thr_r (one : Bool) : ∀ (t : T) (W : Wk), ((thr one t W).r = true ↔ W.r = true ∨ 0 < t.refs)
  | .leaf x, W => by
    simp only [thr, T.refs]
    by_cases h8 : x.kind = 8
    · rw [if_pos h8, if_pos h8]; simp
    · rw [if_neg h8, if_neg h8]
      split <;> simp
  | .two k a b, W => by
    have h1 := thr_r one a ⟨W.g && okTwo k a b, W.k, W.en, W.r⟩
    have h2 := thr_r one b (thr one a ⟨W.g && okTwo k a b, W.k, W.en, W.r⟩)
    have e : (T.two k a b).refs = a.refs + b.refs := rfl
    rw [e]
    show (thr one b (thr one a ⟨W.g && okTwo k a b, W.k, W.en, W.r⟩)).r = true ↔ _
    rw [h2, h1]
    constructor
    · rintro ((h | h) | h)
      · exact .inl h
      · exact .inr (by omega)
      · exact .inr (by omega)
    · rintro (h | h)
      · exact .inl (.inl h)
      · by_cases q : 0 < a.refs
        · exact .inl (.inr q)
        · exact .inr (by omega)
  | .times m M t, W => thr_r one t ⟨W.g && okTimes t, W.k, W.en, W.r⟩
  | .group n t, W => thr_r one t ⟨W.g && decide (((W.k : Int) + 1) = n), W.k + 1, W.en, W.r⟩
/-- **What through finds: the tree is good, just if it keeps to all and its numbers are right.** -/
theorem thr_good (one : Bool) : ∀ (t : T) (W : Wk), ((thr one t W).g = true ↔ W.g = true ∧ tOk one t ∧ (num t (W.k, W.en)).isSome = true) ∧ (∀ u, num t (W.k, W.en) = some u → (thr one t W).k = u.1 ∧ (thr one t W).en = u.2)
  | .leaf x, W => by
    simp only [thr, tOk, num]
    by_cases h8 : x.kind = 8
    · rw [if_pos h8, if_pos h8]
      have h0 : x.kind ≠ 0 := by omega
      by_cases he : W.en x.n.toNat = true
      · rw [if_pos he]
        simp [he, h0]
      · rw [if_neg he]
        simp [he]
    · rw [if_neg h8, if_neg h8]
      by_cases h0 : x.kind = 0
      · rw [if_pos h0]
        simp [h0]
      · rw [if_neg h0]
        simp [h0]
  | .two k a b, W => by
    have iha := thr_good one a ⟨W.g && okTwo k a b, W.k, W.en, W.r⟩
    have ihb := thr_good one b (thr one a ⟨W.g && okTwo k a b, W.k, W.en, W.r⟩)
    simp only at iha
    simp only [thr, tOk, num]
    generalize thr one a ⟨W.g && okTwo k a b, W.k, W.en, W.r⟩ = U at *
    cases hn : num a (W.k, W.en) with
    | none =>
      rw [hn] at iha
      refine ⟨?_, fun u h => by simp at h⟩
      rw [ihb.1, iha.1]
      simp
    | some v =>
      obtain ⟨e1, e2⟩ := iha.2 v hn
      rw [hn] at iha
      have ev : (U.k, U.en) = v := by rw [e1, e2]
      rw [ev] at ihb
      refine ⟨?_, fun u h => ihb.2 u (by simpa using h)⟩
      rw [ihb.1, iha.1]
      simp [and_assoc]
  | .times m M t, W => by
    have ih := thr_good one t ⟨W.g && okTimes t, W.k, W.en, W.r⟩
    simp only at ih
    simp only [thr, tOk, num]
    refine ⟨?_, ih.2⟩
    rw [ih.1]
    simp [and_assoc]
  | .group n t, W => by
    have ih := thr_good one t ⟨W.g && decide (((W.k : Int) + 1) = n), W.k + 1, W.en, W.r⟩
    simp only at ih
    simp only [thr, tOk, num]
    generalize thr one t ⟨W.g && decide (((W.k : Int) + 1) = n), W.k + 1, W.en, W.r⟩ = U at *
    by_cases hc : n = (W.k : Int) + 1
    · have hc' : ((W.k : Int) + 1) = n := hc.symm
      rw [if_pos hc]
      refine ⟨?_, fun u h => ?_⟩
      · rw [ih.1, decide_eq_true hc']
        cases num t (W.k + 1, W.en) <;> simp
      · rw [Option.map_eq_some_iff] at h
        obtain ⟨v, hv, rfl⟩ := h
        obtain ⟨e1, e2⟩ := ih.2 v hv
        exact ⟨e1, by rw [e2]⟩
    · have hc' : ¬ ((W.k : Int) + 1) = n := fun e => hc e.symm
      rw [if_neg hc]
      refine ⟨?_, fun u h => by cases h⟩
      rw [ih.1, decide_eq_false hc']
      simp

end Go.Proofs.YthbldjiibgnfmaaGreatDoor

namespace Go.Proofs.YthbldjiibgnfmaaGreatDoor
open Go.RowKit
set_option linter.unusedVariables false
set_option linter.unusedSimpArgs false

/-- What through answers at a tree that ends at k. -/
def Thru (b o0 n cap : Nat) (xs : List Nd) (t : T) : Prop := ∀ (o k : Nat) (S : Wk) (w : World), T.At (fun i => xs[i]?) t o → o + t.size = k + 1 → k < n → S.k + t.size ≤ 1000 → NodesAt w b o0 xs →
  Calls Tryz.prog 84 #[.slice (some ⟨b, o0, none⟩) n cap, .int .i64 (k : Int), .agg S.cells] w fun e w' => e = .returned (.agg (thr (decide (n = 1)) t S).cells) ∧ Below w.heap.size w w'
theorem heap3 (w : World) (o1 o2 o3 : Obj) : (((w.alloc o1).alloc o2).alloc o3).heap[w.heap.size + 1]? = some o2 := by
  rw [heap_alloc_lt _ _ _ (by rw [World.size_alloc, World.size_alloc]; omega)]
  have := heap_new (w.alloc o1) o2
  rw [World.size_alloc] at this
  exact this
theorem below3 (w : World) (o1 o2 o3 : Obj) : Below w.heap.size w (((w.alloc o1).alloc o2).alloc o3) := (((Below.refl _ w).alloc (Nat.le_refl _) _).alloc (by rw [World.size_alloc]; omega) _).alloc (by rw [World.size_alloc, World.size_alloc]; omega) _

section
variable {w w1 w2 : World} {b o : Nat} {xs : List Nd} {x : Nd} {W : Wk}
end

set_option maxRecDepth 100000 in
set_option maxHeartbeats 8000000 in
theorem thru_leaf1 (b o0 n cap : Nat) (xs : List Nd) (hlen : xs.length = n) (hn : n ≤ 120) (w0 w1 w2 w3 : Nat) (xa xb m M xn : Int) : Thru b o0 n cap xs (T.leaf ⟨1, w0, w1, w2, w3, xa, xb, m, M, xn⟩) := by
  rintro o k ⟨g, j, en, r⟩ w ha he hk hj hw
  have hr := ha.root
  rw [show o + (T.leaf ⟨1, w0, w1, w2, w3, xa, xb, m, M, xn⟩).size - 1 = k by omega] at hr
  have lb := hw.lt
  have hk1 : (k : Int) < n := by omega
  have hcell := hw.cell k _ hr
  have d0 : w.cell? ⟨b, o0 + k * 10, none⟩ = some (.int .i64 1) := hcell 0 _ rfl
  have d1 : w.cell? ⟨b, o0 + k * 10 + 1, none⟩ = some (.int .u64 w0) := hcell 1 _ rfl
  have d2 : w.cell? ⟨b, o0 + k * 10 + 2, none⟩ = some (.int .u64 w1) := hcell 2 _ rfl
  have d3 : w.cell? ⟨b, o0 + k * 10 + 3, none⟩ = some (.int .u64 w2) := hcell 3 _ rfl
  have d4 : w.cell? ⟨b, o0 + k * 10 + 4, none⟩ = some (.int .u64 w3) := hcell 4 _ rfl
  have d5 : w.cell? ⟨b, o0 + k * 10 + 5, none⟩ = some (.int .i64 xa) := hcell 5 _ rfl
  have d6 : w.cell? ⟨b, o0 + k * 10 + 6, none⟩ = some (.int .i64 xb) := hcell 6 _ rfl
  have d7 : w.cell? ⟨b, o0 + k * 10 + 7, none⟩ = some (.int .i64 m) := hcell 7 _ rfl
  have d8 : w.cell? ⟨b, o0 + k * 10 + 8, none⟩ = some (.int .i64 M) := hcell 8 _ rfl
  have d9 : w.cell? ⟨b, o0 + k * 10 + 9, none⟩ = some (.int .i64 xn) := hcell 9 _ rfl
  have et : thr (decide (n = 1)) (T.leaf ⟨1, w0, w1, w2, w3, xa, xb, m, M, xn⟩) ⟨g, j, en, r⟩ = ⟨g, j, en, r⟩ := rfl
  rw [et]
  clear hcell hr ha et
  unfold Wk.cells
  go_enter Tryz.func84, Tryz.ntmps84
  go_wp2
  have ql := (WB.mk (heap3 w (.cells #[.bool g, .int .i64 j, .bool (en 0), .bool (en 1), .bool (en 2), .bool (en 3), .bool (en 4), .bool (en 5), .bool (en 6), .bool (en 7), .bool (en 8), .bool (en 9), .bool r] 97) (.cells #[.bool g, .int .i64 j, .bool (en 0), .bool (en 1), .bool (en 2), .bool (en 3), .bool (en 4), .bool (en 5), .bool (en 6), .bool (en 7), .bool (en 8), .bool (en 9), .bool r] 97) (.cells #[.int .i64 1, .int .u64 w0, .int .u64 w1, .int .u64 w2, .int .u64 w3, .int .i64 xa, .int .i64 xb, .int .i64 m, .int .i64 M, .int .i64 xn] 47))).load rfl
  refine bodyPost_ret (v := .agg #[.bool g, .int .i64 j, .bool (en 0), .bool (en 1), .bool (en 2), .bool (en 3), .bool (en 4), .bool (en 5), .bool (en 6), .bool (en 7), .bool (en 8), .bool (en 9), .bool r]) (by simp [results, Tryz.results84, asAddr, Result.andThen, ql]) rfl ⟨rfl, below3 w _ _ _⟩

end Go.Proofs.YthbldjiibgnfmaaGreatDoor

namespace Go.Proofs.YthbldjiibgnfmaaGreatDoor
open Go.RowKit
set_option linter.unusedVariables false
set_option linter.unusedSimpArgs false

theorem NodesAt.setRow {w : World} {b o : Nat} {xs : List Nd} (h : NodesAt w b o xs) {B : Nat} (hb : b ≠ B) (C : Array Value) : NodesAt (w.setRow B C) b o xs := by
  have hk : (w.setRow B C).heap[b]? = w.heap[b]? := by
    show (w.heap.modify B _)[b]? = _
    rw [Array.getElem?_modify, if_neg (fun e => hb e.symm)]
  refine ⟨by have := h.lt; simpa [World.setRow] using this, fun i x hx j v hv => ?_⟩
  have := h.cell i x hx j v hv
  unfold World.cell? at this ⊢
  rw [hk]
  exact this
end Go.Proofs.YthbldjiibgnfmaaGreatDoor

namespace Go.Proofs.YthbldjiibgnfmaaGreatDoor
open Go.RowKit
set_option linter.unusedVariables false
set_option linter.unusedSimpArgs false

theorem WB.loadAt {w : World} {b : Nat} {v : Array Value} (h : WB w b v) (hs : v.size = 13) : (Instr.loadAt 97 (.pointer (some ⟨b, 0, none⟩))).run Tryz.prog w = .ok (.agg v) w := by
  simp only [Instr.loadAt, Instr.sureAddr, Sem.run_bind, Sem.run_pure, Result.andThen]
  exact h.load hs
end Go.Proofs.YthbldjiibgnfmaaGreatDoor

namespace Go.Proofs.YthbldjiibgnfmaaGreatDoor
open Go.RowKit
set_option linter.unusedVariables false
set_option linter.unusedSimpArgs false

namespace T
end T

theorem tfits_at {xs : List Nd} (hf : ∀ (i : Nat) (x : Nd), xs[i]? = some x → x.Fits) : ∀ (t : T) (o : Nat), T.At (fun i => xs[i]?) t o → TFits t
  | .leaf x, o, h => hf o x h
  | .two k a b, o, ⟨h1, h2, h3⟩ => ⟨tfits_at hf a o h1, tfits_at hf b _ h2⟩
  | .times m M t, o, ⟨h1, h3⟩ => tfits_at hf t o h1
  | .group n t, o, ⟨h1, h3⟩ => tfits_at hf t o h1
end Go.Proofs.YthbldjiibgnfmaaGreatDoor
