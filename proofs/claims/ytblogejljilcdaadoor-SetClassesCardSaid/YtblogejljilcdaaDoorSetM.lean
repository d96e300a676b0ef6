/- The reference's arrays of 256 bools. -/
import Derived.Test.YtblogejljilcdaaDoorSetQ
import Derived.Deep.WholeRow
namespace Go.Proofs.YtblogejljilcdaaDoor
open Go.RowKit
set_option linter.unusedVariables false
set_option linter.unusedSimpArgs false

def barr (f : Nat → Bool) : Array Value := ((List.range 256).map fun i => Value.bool (f i)).toArray
def bv (f : Nat → Bool) : Value := .agg (barr f)
theorem barr_size (f : Nat → Bool) : (barr f).size = 256 := by simp [barr]
theorem barr_congr {f g : Nat → Bool} (h : ∀ i, i < 256 → f i = g i) : barr f = barr g := by
  unfold barr
  congr 1
  apply List.map_congr_left
  intro i hi
  rw [h i (by simpa using hi)]
theorem barr_at (f : Nat → Bool) (j : Nat) (h : j < 256) : (barr f)[j]? = some (.bool (f j)) := by simp [barr, h]
theorem barr_set (f : Nat → Bool) (j : Nat) (v : Bool) : (barr f).setIfInBounds j (.bool v) = barr (fun i => if i = j then v else f i) := by
  apply Array.ext_getElem?
  intro i
  rw [Array.getElem?_setIfInBounds]
  by_cases hi : i < 256
  · rw [barr_at _ i hi, barr_at _ i hi, barr_size]
    by_cases e : j = i
    · subst e; simp [hi]
    · have e' : ¬ i = j := fun h => e h.symm
      simp [e, e']
  · have h1 : (barr f)[i]? = none := Array.getElem?_eq_none (by rw [barr_size]; omega)
    have h2 : (barr fun k => if k = j then v else f k)[i]? = none := Array.getElem?_eq_none (by rw [barr_size]; omega)
    rw [h1, h2, barr_size]
    split <;> first | rfl | (split <;> first | rfl | omega)
theorem barr_all (f : Nat → Bool) : (barr f).all (·.oneCell') = true := by
  simp [barr, Value.oneCell']
theorem info27 : (Tryd.prog.info? 34).map (fun i => (i.zero, i.size)) = some (some (.agg (barr fun _ => false)), 256) := by kernel_rfl

/-- Block b holds the array of f. -/
structure Row (W : World) (b : Nat) (f : Nat → Bool) : Prop where
  heap : W.heap[b]? = some (.cells (barr f) 34 (0, 0))
section
variable {W : World} {b : Nat} {f : Nat → Bool}
theorem Row.lt (h : Row W b f) : b < W.heap.size := (Array.getElem?_eq_some_iff.1 h.heap).1
theorem Row.cell (h : Row W b f) (j : Nat) (hj : j < 256) : W.cell? ⟨b, j, none⟩ = some (.bool (f j)) := by simp [World.cell?, h.heap, barr_at f j hj]
theorem Row.fz (h : Row W b f) (j : Nat) : W.frozen? ⟨b, j, none⟩ = false := by simp [World.frozen?, h.heap]
theorem Row.below {B : Nat} {W' : World} (h : Row W b f) (hB : Below B W W') (hb : b < B) : Row W' b f := ⟨(hB.block b hb).trans h.heap⟩
theorem Row.alloc (h : Row W b f) (o : Obj) : Row (W.alloc o) b f := h.below (B := W.heap.size) ((Below.refl _ W).alloc (Nat.le_refl _) o) h.lt
theorem Row.set (h : Row W b f) (j : Nat) (v : Bool) : Row (W.setCell ⟨b, j, none⟩ (.bool v)) b (fun i => if i = j then v else f i) := ⟨by rw [heap_setCell_same _ b j _ _ _ h.heap, barr_set]⟩
theorem Row.other (h : Row W b f) {p : Addr} (hp : b ≠ p.block) (u : Value) : Row (W.setCell p u) b f := ⟨(Below.heap_setCell W p u b hp).trans h.heap⟩
theorem Row.new (W : World) (f : Nat → Bool) : Row (W.alloc (.cells (barr f) 34)) W.heap.size f := ⟨by show (W.heap.push _)[W.heap.size]? = _; simp⟩
theorem Row.congr {g : Nat → Bool} (h : Row W b f) (e : ∀ i, i < 256 → f i = g i) : Row W b g := ⟨by rw [← barr_congr e]; exact h.heap⟩
theorem size27 : (Tryd.prog.info? 34).map (·.size) = some 256 := (zero_of_info info27).2
theorem Row.load (h : Row W b f) : (loadVar 34 ⟨b, 0, none⟩).run Tryd.prog W = .ok (.agg (barr f)) W :=
  run_loadVar_row W b 34 34 (barr f) (0, 0) _ h.heap Tryd.underlying34 rfl (by rw [size27, barr_size])
theorem Row.loadAt (h : Row W b f) : (Instr.loadAt 34 (.pointer (some ⟨b, 0, none⟩))).run Tryd.prog W = .ok (.agg (barr f)) W := by
  simp only [Instr.loadAt, Instr.sureAddr, Sem.run_bind, Sem.run_pure, Result.andThen]
  exact h.load
theorem Row.store (h : Row W b f) (g : Nat → Bool) : (storeVar 34 ⟨b, 0, none⟩ (.agg (barr g))).run Tryd.prog W = .ok () (W.setRow b (barr g)) :=
  run_storeVar_row W b 34 34 (barr f) (barr g) h.heap (by rw [size27, barr_size]) (by rw [barr_size, barr_size]) (barr_all g)
theorem Row.storeAt (h : Row W b f) (g : Nat → Bool) : (Instr.storeAt 34 (.pointer (some ⟨b, 0, none⟩)) (.agg (barr g))).run Tryd.prog W = .ok () (W.setRow b (barr g)) := by
  simp only [Instr.storeAt, Instr.sureAddr, Sem.run_bind, Sem.run_pure, Result.andThen]
  exact h.store g
theorem Row.storeCells (h : Row W b f) (g : Nat → Bool) : (storeCells ⟨b, 0, none⟩ (barr g).toList).run Tryd.prog W = .ok () (W.setRow b (barr g)) := by
  have := h.store g
  have hs := size27
  cases hq : Tryd.prog.info? 34 with
  | none => simp [hq] at hs
  | some i =>
    have h2 : i.size = 256 := by simpa [hq] using hs
    simpa [storeVar, sizeOf, typeInfo, hq, Value.cells, h2, barr_size] using this
theorem Row.put (h : Row W b f) (g : Nat → Bool) : Row (W.setRow b (barr g)) b g := ⟨by
  obtain ⟨hlt, hk⟩ := Array.getElem?_eq_some_iff.1 h.heap
  show (W.heap.modify b _)[b]? = _
  rw [Array.getElem?_eq_getElem (by rw [Array.size_modify]; exact hlt), Array.getElem_modify_self, hk]⟩
theorem Below.setRow {B : Nat} {a w : World} (h : Below B a w) {b : Nat} (hb : B ≤ b) (c : Array Value) : Below B a (w.setRow b c) :=
  h.trans ⟨rfl, rfl, rfl, by simp [World.setRow], fun k hk => by
    show (w.heap.modify b _)[k]? = _
    rw [Array.getElem?_modify, if_neg (by omega)]⟩
theorem Row.setRow_other (h : Row W b f) {b' : Nat} (hb : b ≠ b') (c : Array Value) : Row (W.setRow b' c) b f := ⟨by
  show (W.heap.modify b' _)[b]? = _
  rw [Array.getElem?_modify, if_neg (fun e => hb e.symm)]; exact h.heap⟩
theorem wp_load_row {op : Oper} {a : Act} {K : Act → World → Prop} {Q : Exit → Act → World → Prop} {x : Operand} (h : Row W b f) (ho : op.op = .load 34 x) (hx : a.eval x = .pointer (some ⟨b, 0, none⟩))
    (hK : K (a.put op.dst (.agg (barr f))) W) : op.wp Tryd.prog a W K Q := by
  unfold Oper.wp execOp
  simp only [ho, hx, h.loadAt, Sem.run_bind, Sem.run_pure, Result.andThen_ok]
  exact hK
theorem wp_store_row {op : Oper} {a : Act} {K : Act → World → Prop} {Q : Exit → Act → World → Prop} {x y : Operand} {g : Nat → Bool} (h : Row W b f) (ho : op.op = .store 34 x y) (hx : a.eval x = .pointer (some ⟨b, 0, none⟩)) (hy : a.eval y = .agg (barr g))
    (hK : K (a.put op.dst undef) (W.setRow b (barr g))) : op.wp Tryd.prog a W K Q := by
  unfold Oper.wp execOp
  simp only [ho, hx, hy, h.storeAt, Sem.run_bind, Sem.run_pure, Result.andThen_ok]
  exact hK
end

set_option maxRecDepth 100000 in
set_option maxHeartbeats 1000000 in
theorem rnot_c (f : Nat → Bool) (w : World) :
    Calls Tryd.prog 24 #[bv f] w fun e w' => e = .returned (bv fun i => !f i) ∧ Below w.heap.size w w' := by
  obtain ⟨hz, hsz⟩ := zero_of_info (P := Tryd.prog) info27
  unfold bv
  go_enter Tryd.func24, Tryd.ntmps24
  go_wp2
  go_loopw [3] (fun i wr => ∃ k : Nat, k ≤ 256 ∧ i = .int .i64 k ∧ Row wr w.heap.size (fun j => if j < k then !f j else f j) ∧ Row wr (w.heap.size + 1) (fun _ => false) ∧ Below w.heap.size w wr) (fun i _ => 256 - (intOf i).toNat)
  case atStart =>
    refine ⟨0, by omega, rfl, ?_, ?_, ((Below.refl _ w).alloc (Nat.le_refl _) _).alloc (by simp) _⟩
    · exact ((Row.new w f).alloc _).congr fun i _ => by simp
    · have := Row.new (w.alloc (.cells (barr f) 34)) (fun _ => false)
      rwa [World.size_alloc] at this
  case round =>
    obtain ⟨k, hk, rfl, h0, h1, hB⟩ := hrel
    by_cases hlt : k < 256
    · have hc := h0.cell k hlt
      rw [if_neg (by omega)] at hc
      have hf := h0.fz k
      go_wp2
      go_roundw
      case rel =>
        refine ⟨k + 1, by omega, by simp, (h0.set k _).congr fun i _ => ?_, h1.other (by simp) _, hB.setCell (p := ⟨w.heap.size, k, none⟩) (Nat.le_refl _) _⟩
        by_cases e : i = k
        · subst e; simp
        · have e2 : (i < k + 1) = (i < k) := propext (by omega)
          simp [e, e2]
      case measure => simp [intOf]; omega
    · obtain rfl : k = 256 := by omega
      have h0 := h0.congr (g := fun i => !f i) (fun i hi => by simp [hi])
      have hst := h1.storeCells
      go_wp2
      refine wp_load_row h0 rfl rfl ?_
      go_wp2
      have q := h1.put (fun i => !f i)
      have ql := q.load
      refine bodyPost_ret (v := .agg (barr fun i => !f i)) ?_ rfl ⟨rfl, Below.setRow hB (by omega) _⟩
      simp [results, Tryd.results24, asAddr, Result.andThen, ql]

end Go.Proofs.YtblogejljilcdaaDoor
