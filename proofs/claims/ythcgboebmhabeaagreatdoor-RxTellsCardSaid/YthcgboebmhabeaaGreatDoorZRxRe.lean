/- The reference's walk as a value; through, of no program. -/
import Derived.Test.YthcgboebmhabeaaGreatDoorZRxRc
import Derived.Test.YthcgboebmhabeaaGreatDoorZRxW
namespace Go.Proofs.YthcgboebmhabeaaGreatDoor
open Go.RowKit
set_option linter.unusedVariables false
set_option linter.unusedSimpArgs false

/-- What is found on the way. -/
structure Wk where
  g : Bool
  k : Nat
  en : Nat → Bool
  r : Bool
def Wk.cells (W : Wk) : Array Value := #[.bool W.g, .int .i64 W.k, .bool (W.en 0), .bool (W.en 1), .bool (W.en 2), .bool (W.en 3), .bool (W.en 4), .bool (W.en 5), .bool (W.en 6), .bool (W.en 7), .bool (W.en 8), .bool (W.en 9), .bool W.r]
theorem infoWk : (Tryz.prog.info? 49).map (fun i => (i.zero, i.size)) = some (some (.agg #[.bool false, .int .i64 0, .bool false, .bool false, .bool false, .bool false, .bool false, .bool false, .bool false, .bool false, .bool false, .bool false, .bool false]), 13) := by kernel_rfl
theorem sizeWk : (Tryz.prog.info? 49).map (·.size) = some 13 := (zero_of_info infoWk).2
theorem Wk.cells_size (W : Wk) : W.cells.size = 13 := rfl
theorem Wk.cells_all (W : Wk) : W.cells.all (·.oneCell') = true := by simp [Wk.cells, Value.oneCell']

/-- Block b holds a walk's cells. -/
structure WB (w : World) (b : Nat) (v : Array Value) : Prop where
  heap : w.heap[b]? = some (.cells v 49 (0, 0))
section
variable {w w' : World} {b : Nat} {v : Array Value}
theorem WB.lt (h : WB w b v) : b < w.heap.size := (Array.getElem?_eq_some_iff.1 h.heap).1
theorem WB.below {B : Nat} (h : WB w b v) (hB : Below B w w') (hb : b < B) : WB w' b v := ⟨(hB.block b hb).trans h.heap⟩
theorem WB.load (h : WB w b v) (hs : v.size = 13) : (loadVar 49 ⟨b, 0, none⟩).run Tryz.prog w = .ok (.agg v) w :=
  run_loadVar_row w b 49 49 v (0, 0) _ h.heap Tryz.underlying49 rfl (by rw [sizeWk, hs])
theorem WB.store (h : WB w b v) (hs : v.size = 13) (W : Wk) : (storeVar 49 ⟨b, 0, none⟩ (.agg W.cells)).run Tryz.prog w = .ok () (w.setRow b W.cells) :=
  run_storeVar_row w b 49 49 v W.cells h.heap (by rw [sizeWk, W.cells_size]) (by rw [hs, W.cells_size]) W.cells_all
theorem WB.storeCells (h : WB w b v) (hs : v.size = 13) (W : Wk) : (storeCells ⟨b, 0, none⟩ W.cells.toList).run Tryz.prog w = .ok () (w.setRow b W.cells) := by
  have := h.store hs W
  have hz := sizeWk
  cases hq : Tryz.prog.info? 49 with
  | none => simp [hq] at hz
  | some i =>
    have h2 : i.size = 13 := by simpa [hq] using hz
    simpa [storeVar, sizeOf, typeInfo, hq, Value.cells, h2, W.cells_size] using this
theorem WB.put (h : WB w b v) (v' : Array Value) : WB (w.setRow b v') b v' := ⟨by
  obtain ⟨hlt, hk⟩ := Array.getElem?_eq_some_iff.1 h.heap
  show (w.heap.modify b _)[b]? = _
  rw [Array.getElem?_eq_getElem (by rw [Array.size_modify]; exact hlt), Array.getElem_modify_self, hk]⟩
theorem WB.cell (h : WB w b v) (j : Nat) : w.cell? ⟨b, j, none⟩ = v[j]? := cell_of _ _ _ _ h.heap j
theorem WB.fz (h : WB w b v) (j : Nat) : w.frozen? ⟨b, j, none⟩ = false := frozen_of _ _ _ _ h.heap j
end

/-- The kind of a tree's root. -/
def rk : T → Int
  | .leaf x => x.kind
  | .two k _ _ => k
  | .times _ _ _ => 6
  | .group _ _ => 7
theorem rk_root (t : T) (o : Nat) : (t.root o).kind = rk t := by cases t <;> rfl
def okTwo (k : Int) (a b : T) : Bool := if k = 4 then !(decide (rk a = 4) || decide (rk a = 5) || decide (rk b = 5)) else !decide (rk a = 5)
def okTimes (t : T) : Bool := decide (rk t = 1) || decide (rk t = 7) || decide (rk t = 8)
/-- What through finds in a tree. -/
def thr (one : Bool) : T → Wk → Wk
  | .leaf x, W => if x.kind = 8 then ⟨W.g && W.en x.n.toNat, W.k, W.en, true⟩ else if x.kind = 0 then ⟨W.g && one, W.k, W.en, W.r⟩ else W
  | .two k a b, W => thr one b (thr one a ⟨W.g && okTwo k a b, W.k, W.en, W.r⟩)
  | .times m M t, W => thr one t ⟨W.g && okTimes t, W.k, W.en, W.r⟩
  | .group n t, W => ⟨(thr one t ⟨W.g && decide (((W.k : Int) + 1) = n), W.k + 1, W.en, W.r⟩).g, (thr one t ⟨W.g && decide (((W.k : Int) + 1) = n), W.k + 1, W.en, W.r⟩).k, fun i => if i = n.toNat then true else (thr one t ⟨W.g && decide (((W.k : Int) + 1) = n), W.k + 1, W.en, W.r⟩).en i, (thr one t ⟨W.g && decide (((W.k : Int) + 1) = n), W.k + 1, W.en, W.r⟩).r⟩

/-- What a tree's nodes must keep to where they stand. -/
def tOk (one : Bool) : T → Prop
  | .leaf x => x.kind = 0 → one = true
  | .two k a b => okTwo k a b = true ∧ tOk one a ∧ tOk one b
  | .times m M t => okTimes t = true ∧ tOk one t
  | .group n t => tOk one t
theorem thr_k (one : Bool) : ∀ (t : T) (W : Wk), (thr one t W).k = W.k + t.groups
  | .leaf x, W => by
    simp only [thr, T.groups]
    split
    · rfl
    · split <;> rfl
  | .two k a b, W => by simp only [thr, T.groups, thr_k one a, thr_k one b]; omega
  | .times m M t, W => by simp only [thr, T.groups, thr_k one t]
  | .group n t, W => by simp only [thr, T.groups, thr_k one t]; omega
theorem thr_r (one : Bool) : ∀ (t : T) (W : Wk), ((thr one t W).r = true ↔ W.r = true ∨ 0 < t.refs)
  | .leaf x, W => by
    simp only [thr, T.refs]
    by_cases h8 : x.kind = 8
    · rw [if_pos h8, if_pos h8]; simp
    · rw [if_neg h8, if_neg h8]
      split <;> simp
  | .two k a b, W => by
    have h1 := thr_r one a ⟨W.g && okTwo k a b, W.k, W.en, W.r⟩
    have h2 := thr_r one b (thr one a ⟨W.g && okTwo k a b, W.k, W.en, W.r⟩)
    have e : (T.two k a b).refs = a.refs + b.refs := rfl
    rw [e]
    show (thr one b (thr one a ⟨W.g && okTwo k a b, W.k, W.en, W.r⟩)).r = true ↔ _
    rw [h2, h1]
    constructor
    · rintro ((h | h) | h)
      · exact .inl h
      · exact .inr (by omega)
      · exact .inr (by omega)
    · rintro (h | h)
      · exact .inl (.inl h)
      · by_cases q : 0 < a.refs
        · exact .inl (.inr q)
        · exact .inr (by omega)
  | .times m M t, W => thr_r one t ⟨W.g && okTimes t, W.k, W.en, W.r⟩
  | .group n t, W => thr_r one t ⟨W.g && decide (((W.k : Int) + 1) = n), W.k + 1, W.en, W.r⟩
/-- **What through finds: the tree is good, just if it keeps to all and its numbers are right.** -/
theorem thr_good (one : Bool) : ∀ (t : T) (W : Wk), ((thr one t W).g = true ↔ W.g = true ∧ tOk one t ∧ (num t (W.k, W.en)).isSome = true) ∧ (∀ u, num t (W.k, W.en) = some u → (thr one t W).k = u.1 ∧ (thr one t W).en = u.2)
  | .leaf x, W => by
    simp only [thr, tOk, num]
    by_cases h8 : x.kind = 8
    · rw [if_pos h8, if_pos h8]
      have h0 : x.kind ≠ 0 := by omega
      by_cases he : W.en x.n.toNat = true
      · rw [if_pos he]
        simp [he, h0]
      · rw [if_neg he]
        simp [he]
    · rw [if_neg h8, if_neg h8]
      by_cases h0 : x.kind = 0
      · rw [if_pos h0]
        simp [h0]
      · rw [if_neg h0]
        simp [h0]
  | .two k a b, W => by
    have iha := thr_good one a ⟨W.g && okTwo k a b, W.k, W.en, W.r⟩
    have ihb := thr_good one b (thr one a ⟨W.g && okTwo k a b, W.k, W.en, W.r⟩)
    simp only at iha
    simp only [thr, tOk, num]
    generalize thr one a ⟨W.g && okTwo k a b, W.k, W.en, W.r⟩ = U at *
    cases hn : num a (W.k, W.en) with
    | none =>
      rw [hn] at iha
      refine ⟨?_, fun u h => by simp at h⟩
      rw [ihb.1, iha.1]
      simp
    | some v =>
      obtain ⟨e1, e2⟩ := iha.2 v hn
      rw [hn] at iha
      have ev : (U.k, U.en) = v := by rw [e1, e2]
      rw [ev] at ihb
      refine ⟨?_, fun u h => ihb.2 u (by simpa using h)⟩
      rw [ihb.1, iha.1]
      simp [and_assoc]
  | .times m M t, W => by
    have ih := thr_good one t ⟨W.g && okTimes t, W.k, W.en, W.r⟩
    simp only at ih
    simp only [thr, tOk, num]
    refine ⟨?_, ih.2⟩
    rw [ih.1]
    simp [and_assoc]
  | .group n t, W => by
    have ih := thr_good one t ⟨W.g && decide (((W.k : Int) + 1) = n), W.k + 1, W.en, W.r⟩
    simp only at ih
    simp only [thr, tOk, num]
    generalize thr one t ⟨W.g && decide (((W.k : Int) + 1) = n), W.k + 1, W.en, W.r⟩ = U at *
    by_cases hc : n = (W.k : Int) + 1
    · have hc' : ((W.k : Int) + 1) = n := hc.symm
      rw [if_pos hc]
      refine ⟨?_, fun u h => ?_⟩
      · rw [ih.1, decide_eq_true hc']
        cases num t (W.k + 1, W.en) <;> simp
      · rw [Option.map_eq_some_iff] at h
        obtain ⟨v, hv, rfl⟩ := h
        obtain ⟨e1, e2⟩ := ih.2 v hv
        exact ⟨e1, by rw [e2]⟩
    · have hc' : ¬ ((W.k : Int) + 1) = n := fun e => hc e.symm
      rw [if_neg hc]
      refine ⟨?_, fun u h => by cases h⟩
      rw [ih.1, decide_eq_false hc']
      simp

end Go.Proofs.YthcgboebmhabeaaGreatDoor
