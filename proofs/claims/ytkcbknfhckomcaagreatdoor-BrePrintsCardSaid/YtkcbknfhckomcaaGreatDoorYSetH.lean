/- The reference's arrays of 256 bools. -/
import Derived.Test.YtkcbknfhckomcaaGreatDoorYSetA
import Derived.Deep.WholeRow
import Derived.ChangeKeysEq
import Derived.Test.YtkcbknfhckomcaaGreatDoorYSetE
import Derived.OwnWalk
import Derived.Test.YtkcbknfhckomcaaGreatDoorYSetZ
set_option linter.unusedVariables false
set_option linter.unusedSimpArgs false
set_option maxRecDepth 100000
set_option maxHeartbeats 40000000
namespace Go.Proofs.YtkcbknfhckomcaaGreatDoor
open Go.RowKit
def barr (f : Nat → Bool) : Array Value := ((List.range 256).map fun i => Value.bool (f i)).toArray
def bv (f : Nat → Bool) : Value := .agg (barr f)
theorem barr_size (f : Nat → Bool) : (barr f).size = 256 := by simp [barr]
theorem barr_congr {f g : Nat → Bool} (h : ∀ i, i < 256 → f i = g i) : barr f = barr g := by
 unfold barr
 congr 1
 apply List.map_congr_left
 intro i hi
 rw [h i (by simpa using hi)]
theorem barr_at (f : Nat → Bool) (j : Nat) (h : j < 256) : (barr f)[j]? = some (.bool (f j)) := by simp [barr, h]
theorem barr_set (f : Nat → Bool) (j : Nat) (v : Bool) : (barr f).setIfInBounds j (.bool v) = barr (fun i => if i = j then v else f i) := by
 apply Array.ext_getElem?
 intro i
 rw [Array.getElem?_setIfInBounds]
 by_cases hi : i < 256
 ·rw [barr_at _ i hi, barr_at _ i hi, barr_size]
  by_cases e : j = i
  ·subst e; simp [hi]
  ·have e' : ¬ i = j := fun h => e h.symm
   simp [e, e']
 ·have h1 : (barr f)[i]? = none := Array.getElem?_eq_none (by rw [barr_size]; omega)
  have h2 : (barr fun k => if k = j then v else f k)[i]? = none := Array.getElem?_eq_none (by rw [barr_size]; omega)
  rw [h1, h2, barr_size]
  split <;> first | rfl | (split <;> first | rfl | omega)
theorem barr_all (f : Nat → Bool) : (barr f).all (·.oneCell') = true := by
 simp [barr, Value.oneCell']
theorem info27 : (Tryz.prog.info? 66).map (fun i => (i.zero, i.size)) = some (some (.agg (barr fun _ => false)), 256) := by kernel_rfl
structure Row (W : World) (b : Nat) (f : Nat → Bool) : Prop where
 heap : W.heap[b]? = some (.cells (barr f) 66 (0, 0))
section
variable {W : World} {b : Nat} {f : Nat → Bool}
theorem Row.lt (h : Row W b f) : b < W.heap.size := (Array.getElem?_eq_some_iff.1 h.heap).1
theorem Row.cell (h : Row W b f) (j : Nat) (hj : j < 256) : W.cell? ⟨b, j, none⟩ = some (.bool (f j)) := by simp [World.cell?, h.heap, barr_at f j hj]
theorem Row.fz (h : Row W b f) (j : Nat) : W.frozen? ⟨b, j, none⟩ = false := by simp [World.frozen?, h.heap]
theorem Row.below {B : Nat} {W' : World} (h : Row W b f) (hB : Below B W W') (hb : b < B) : Row W' b f := ⟨(hB.block b hb).trans h.heap⟩
theorem Row.alloc (h : Row W b f) (o : Obj) : Row (W.alloc o) b f := h.below (B := W.heap.size) ((Below.refl _ W).alloc (Nat.le_refl _) o) h.lt
theorem Row.set (h : Row W b f) (j : Nat) (v : Bool) : Row (W.setCell ⟨b, j, none⟩ (.bool v)) b (fun i => if i = j then v else f i) := ⟨by rw [heap_setCell_same _ b j _ _ _ h.heap, barr_set]⟩
theorem Row.other (h : Row W b f) {p : Addr} (hp : b ≠ p.block) (u : Value) : Row (W.setCell p u) b f := ⟨(Below.heap_setCell W p u b hp).trans h.heap⟩
theorem Row.new (W : World) (f : Nat → Bool) : Row (W.alloc (.cells (barr f) 66)) W.heap.size f := ⟨by show (W.heap.push _)[W.heap.size]? = _; simp⟩
theorem Row.congr {g : Nat → Bool} (h : Row W b f) (e : ∀ i, i < 256 → f i = g i) : Row W b g := ⟨by rw [← barr_congr e]; exact h.heap⟩
theorem size27 : (Tryz.prog.info? 66).map (·.size) = some 256 := (zero_of_info info27).2
theorem Row.load (h : Row W b f) : (loadVar 66 ⟨b, 0, none⟩).run Tryz.prog W = .ok (.agg (barr f)) W :=
 run_loadVar_row W b 66 66 (barr f) (0, 0) _ h.heap Tryz.underlying66 rfl (by rw [size27, barr_size])
theorem Row.loadAt (h : Row W b f) : (Instr.loadAt 66 (.pointer (some ⟨b, 0, none⟩))).run Tryz.prog W = .ok (.agg (barr f)) W := by
 simp only [Instr.loadAt, Instr.sureAddr, Sem.run_bind, Sem.run_pure, Result.andThen]
 exact h.load
theorem Row.store (h : Row W b f) (g : Nat → Bool) : (storeVar 66 ⟨b, 0, none⟩ (.agg (barr g))).run Tryz.prog W = .ok () (W.setRow b (barr g)) :=
 run_storeVar_row W b 66 66 (barr f) (barr g) h.heap (by rw [size27, barr_size]) (by rw [barr_size, barr_size]) (barr_all g)
theorem Row.storeAt (h : Row W b f) (g : Nat → Bool) : (Instr.storeAt 66 (.pointer (some ⟨b, 0, none⟩)) (.agg (barr g))).run Tryz.prog W = .ok () (W.setRow b (barr g)) := by
 simp only [Instr.storeAt, Instr.sureAddr, Sem.run_bind, Sem.run_pure, Result.andThen]
 exact h.store g
theorem Row.storeCells (h : Row W b f) (g : Nat → Bool) : (storeCells ⟨b, 0, none⟩ (barr g).toList).run Tryz.prog W = .ok () (W.setRow b (barr g)) := by
 have := h.store g
 have hs := size27
 cases hq : Tryz.prog.info? 66 with
 | none => simp [hq] at hs
 | some i =>
  have h2 : i.size = 256 := by simpa [hq] using hs
  simpa [storeVar, sizeOf, typeInfo, hq, Value.cells, h2, barr_size] using this
theorem Row.put (h : Row W b f) (g : Nat → Bool) : Row (W.setRow b (barr g)) b g := ⟨by
 obtain ⟨hlt, hk⟩ := Array.getElem?_eq_some_iff.1 h.heap
 show (W.heap.modify b _)[b]? = _
 rw [Array.getElem?_eq_getElem (by rw [Array.size_modify]; exact hlt), Array.getElem_modify_self, hk]⟩
theorem Below.setRow {B : Nat} {a w : World} (h : Below B a w) {b : Nat} (hb : B ≤ b) (c : Array Value) : Below B a (w.setRow b c) :=
 h.trans ⟨rfl, rfl, rfl, by simp [World.setRow], fun k hk => by
  show (w.heap.modify b _)[k]? = _
  rw [Array.getElem?_modify, if_neg (by omega)]⟩
theorem Row.setRow_other (h : Row W b f) {b' : Nat} (hb : b ≠ b') (c : Array Value) : Row (W.setRow b' c) b f := ⟨by
 show (W.heap.modify b' _)[b]? = _
 rw [Array.getElem?_modify, if_neg (fun e => hb e.symm)]; exact h.heap⟩
theorem wp_load_row {op : Oper} {a : Act} {K : Act → World → Prop} {Q : Exit → Act → World → Prop} {x : Operand} (h : Row W b f) (ho : op.op = .load 66 x) (hx : a.eval x = .pointer (some ⟨b, 0, none⟩))
  (hK : K (a.put op.dst (.agg (barr f))) W) : op.wp Tryz.prog a W K Q := by
 unfold Oper.wp execOp
 simp only [ho, hx, h.loadAt, Sem.run_bind, Sem.run_pure, Result.andThen_ok]
 exact hK
end
end Go.Proofs.YtkcbknfhckomcaaGreatDoor
namespace Go.Proofs.YtkcbknfhckomcaaGreatDoor
open Go.RowKit
theorem store_fresh (w : World) : (storeCells ⟨w.heap.size + 1, 0, none⟩ (barr fun _ => false).toList).run Tryz.prog ((w.alloc (.cells (barr fun _ => false) 66)).alloc (.cells (barr fun _ => false) 66)) = .ok () ((w.alloc (.cells (barr fun _ => false) 66)).alloc (.cells (barr fun _ => false) 66)) := by
 have := (Row.new (w.alloc (.cells (barr fun _ => false) 66)) (fun _ => false)).storeCells (fun _ => false)
 rw [World.setRow_alloc_new, World.size_alloc] at this
 exact this
def wk (f : Nat → Bool) (m k : Nat) : Nat := wd f m / 2 ^ (min 64 (k - 64 * m))
theorem wk_zero (f : Nat → Bool) (m : Nat) : wk f m 0 = wd f m := by simp [wk]
theorem wk_all (f : Nat → Bool) (m : Nat) (hm : m < 4) : wk f m 256 = 0 := by
 unfold wk
 rw [show min 64 (256 - 64 * m) = 64 by omega]
 exact Nat.div_eq_of_lt (wd_lt f m)
theorem wk_same (f : Nat → Bool) (m i : Nat) (h : m ≠ i / 64) : wk f m (i + 1) = wk f m i := by
 unfold wk
 congr 2
 rcases Nat.lt_or_gt_of_ne h with h1 | h1
 ·have : 64 * m + 64 ≤ i := by omega
  omega
 ·have : i + 1 ≤ 64 * m := by omega
  omega
theorem wk_step (f : Nat → Bool) (i : Nat) : wk f (i / 64) i = 2 * wk f (i / 64) (i + 1) + (f i).toNat := by
 unfold wk
 have e1 : min 64 (i - 64 * (i / 64)) = i % 64 := by omega
 have e2 : min 64 (i + 1 - 64 * (i / 64)) = i % 64 + 1 := by omega
 have hb := wd_has f (i / 64) (i % 64) (by omega)
 rw [show 64 * (i / 64) + i % 64 = i by omega] at hb
 rw [e1, e2, ← hb, Nat.pow_succ, ← Nat.div_div_eq_div_mul]
 omega
theorem wk_lt (f : Nat → Bool) (m k : Nat) : wk f m k < 18446744073709551616 := Nat.lt_of_le_of_lt (Nat.div_le_self _ _) (wd_lt f m)
theorem words_c (f : Nat → Bool) (w : World) :
  Calls Tryz.prog 100 #[bv f] w fun e w' => e = .returned (sv f) ∧ Below w.heap.size w w' := by
 unfold bv sv
 go_enter Tryz.func100, Tryz.ntmps100
 go_wp2
 go_loopw [4] (fun i wr => ∃ k : Nat, k ≤ 256 ∧ i = .int .i64 ((k : Int) - 1) ∧ Row wr w.heap.size f ∧ Four wr (w.heap.size + 1) 37 (.int .u64 0) (.int .u64 0) (.int .u64 0) (.int .u64 0) ∧ Four wr (w.heap.size + 1 + 1) 37 (.int .u64 (wk f 0 k)) (.int .u64 (wk f 1 k)) (.int .u64 (wk f 2 k)) (.int .u64 (wk f 3 k)) ∧ Below w.heap.size w wr) (fun i _ => (RowKit.intOf i + 1).toNat)
 case atStart =>
  refine ⟨256, by omega, rfl, ((Row.new w f).alloc _).alloc _, ?_, ?_, (((Below.refl _ w).alloc (Nat.le_refl _) _).alloc (by simp) _).alloc (by simp; omega) _⟩
  ·have := Four.new (w.alloc (.cells (barr f) 66)) 37 (.int .u64 0) (.int .u64 0) (.int .u64 0) (.int .u64 0)
   rw [World.size_alloc] at this
   exact this.alloc _
  ·rw [wk_all f 0 (by omega), wk_all f 1 (by omega), wk_all f 2 (by omega), wk_all f 3 (by omega)]
   have := Four.new ((w.alloc (.cells (barr f) 66)).alloc (.cells #[.int .u64 0, .int .u64 0, .int .u64 0, .int .u64 0] 37)) 37 (.int .u64 0) (.int .u64 0) (.int .u64 0) (.int .u64 0)
   rw [World.size_alloc, World.size_alloc] at this
   exact this
 case round =>
  obtain ⟨k, hk, rfl, h0, h1, h2, hB⟩ := hrel
  cases k with
  | zero =>
   have e0 := h2.c0; have e1 := h2.c1; have e2 := h2.c2; have e3 := h2.c3
   rw [wk_zero] at e0 e1 e2 e3
   have g0 := h1.c0; have g1 := h1.c1; have g2 := h1.c2; have g3 := h1.c3
   have gf0 := h1.fz 0; have gf1 := h1.fz 1; have gf2 := h1.fz 2; have gf3 := h1.fz 3
   go_wp2
   have q := h1.set (.int .u64 (wd f 0)) (.int .u64 (wd f 1)) (.int .u64 (wd f 2)) (.int .u64 (wd f 3))
   have qc0 := q.c0; have qc1 := q.c1; have qc2 := q.c2; have qc3 := q.c3
   refine bodyPost_ret (v := .agg #[.int .u64 (wd f 0), .int .u64 (wd f 1), .int .u64 (wd f 2), .int .u64 (wd f 3)]) (by simp [results, Tryz.results100, go_sem, qc0, qc1, qc2, qc3]) rfl ⟨rfl, Below.set4 hB (by omega) _ _ _ _⟩
  | succ i =>
   have hi : i < 256 := by omega
   have hki : ((i + 1 : Nat) : Int) - 1 = (i : Int) := by omega
   have hc := h0.cell i hi
   have hst := wk_step f i
   simp only [hki]
   rcases (by omega : i / 64 = 0 ∨ i / 64 = 1 ∨ i / 64 = 2 ∨ i / 64 = 3) with hd | hd | hd | hd
   ·rw [hd] at hst
    have hb := wk_lt f 0 i
    have hi64 : (i : Int) / 64 = 0 := by omega
    have e := h2.c0
    have ef := h2.fz 0
    obtain ⟨y, hy⟩ : ∃ y, y = 2 * wk f 0 (i + 1) := ⟨_, rfl⟩
    rw [← hy] at hst
    have hm : IntKind.u64.wrap ((wk f 0 (i + 1) : Int) * 2) = (y : Int) := u64_wrap _ (by omega) _ (by omega)
    have hs1 := Lib.hid (wk_same f 1 i (by omega))
    have hs2 := Lib.hid (wk_same f 2 i (by omega))
    have hs3 := Lib.hid (wk_same f 3 i (by omega))
    have HS := Lib.hid hst
    cases hv : f i
    ·rw [hv] at hc hst
     have hfin : y = wk f 0 i := by rw [hst]; simp
     have HF := Lib.hid hfin
     clear hst hfin hd hy  hv
     go_wp2
     go_roundw
     case rel =>
      have q := h2.s0 (.int .u64 (y : Int))
      rw [HF.out, hs1.out, hs2.out, hs3.out] at q
      exact ⟨i, by omega, by simp, h0.other (p := ⟨w.heap.size + 1 + 1, 0, none⟩) (by show w.heap.size ≠ w.heap.size + 1 + 1; omega) _, h1.other (p := ⟨w.heap.size + 1 + 1, 0, none⟩) (by show w.heap.size + 1 ≠ w.heap.size + 1 + 1; omega) _, by (first | exact q | (rw [HF.out]; exact q) | (have q' := q; rw [← HF.out] at q'; exact q')), hB.setCell (p := ⟨w.heap.size + 1 + 1, 0, none⟩) (by show w.heap.size ≤ w.heap.size + 1 + 1; omega) _⟩
     case measure => (simp [RowKit.intOf]) <;> omega
    ·rw [hv] at hc hst
     have hfin : y + 1 = wk f 0 i := by rw [hst]; simp
     have ha : IntKind.u64.wrap ((y : Int) + 1) = (wk f 0 i : Int) := u64_wrap _ hb _ (by omega)
     clear hst hfin hd hy  hv
     go_wp2
     go_roundw
     case rel =>
      have q := (h2.s0 (.int .u64 (y : Int))).s0 (.int .u64 (wk f 0 i))
      rw [hs1.out, hs2.out, hs3.out] at q
      exact ⟨i, by omega, by simp, (h0.other (p := ⟨w.heap.size + 1 + 1, 0, none⟩) (by show w.heap.size ≠ w.heap.size + 1 + 1; omega) _).other (p := ⟨w.heap.size + 1 + 1, 0, none⟩) (by show w.heap.size ≠ w.heap.size + 1 + 1; omega) _, (h1.other (p := ⟨w.heap.size + 1 + 1, 0, none⟩) (by show w.heap.size + 1 ≠ w.heap.size + 1 + 1; omega) _).other (p := ⟨w.heap.size + 1 + 1, 0, none⟩) (by show w.heap.size + 1 ≠ w.heap.size + 1 + 1; omega) _, q, (hB.setCell (p := ⟨w.heap.size + 1 + 1, 0, none⟩) (by show w.heap.size ≤ w.heap.size + 1 + 1; omega) _).setCell (p := ⟨w.heap.size + 1 + 1, 0, none⟩) (by show w.heap.size ≤ w.heap.size + 1 + 1; omega) _⟩
     case measure => (simp [RowKit.intOf]) <;> omega
   ·rw [hd] at hst
    have hb := wk_lt f 1 i
    have hi64 : (i : Int) / 64 = 1 := by omega
    have e := h2.c1
    have ef := h2.fz 1
    obtain ⟨y, hy⟩ : ∃ y, y = 2 * wk f 1 (i + 1) := ⟨_, rfl⟩
    rw [← hy] at hst
    have hm : IntKind.u64.wrap ((wk f 1 (i + 1) : Int) * 2) = (y : Int) := u64_wrap _ (by omega) _ (by omega)
    have hs0 := Lib.hid (wk_same f 0 i (by omega))
    have hs2 := Lib.hid (wk_same f 2 i (by omega))
    have hs3 := Lib.hid (wk_same f 3 i (by omega))
    have HS := Lib.hid hst
    cases hv : f i
    ·rw [hv] at hc hst
     have hfin : y = wk f 1 i := by rw [hst]; simp
     have HF := Lib.hid hfin
     clear hst hfin hd hy  hv
     go_wp2
     go_roundw
     case rel =>
      have q := h2.s1 (.int .u64 (y : Int))
      rw [HF.out, hs0.out, hs2.out, hs3.out] at q
      exact ⟨i, by omega, by simp, h0.other (p := ⟨w.heap.size + 1 + 1, 1, none⟩) (by show w.heap.size ≠ w.heap.size + 1 + 1; omega) _, h1.other (p := ⟨w.heap.size + 1 + 1, 1, none⟩) (by show w.heap.size + 1 ≠ w.heap.size + 1 + 1; omega) _, by (first | exact q | (rw [HF.out]; exact q) | (have q' := q; rw [← HF.out] at q'; exact q')), hB.setCell (p := ⟨w.heap.size + 1 + 1, 1, none⟩) (by show w.heap.size ≤ w.heap.size + 1 + 1; omega) _⟩
     case measure => (simp [RowKit.intOf]) <;> omega
    ·rw [hv] at hc hst
     have hfin : y + 1 = wk f 1 i := by rw [hst]; simp
     have ha : IntKind.u64.wrap ((y : Int) + 1) = (wk f 1 i : Int) := u64_wrap _ hb _ (by omega)
     clear hst hfin hd hy  hv
     go_wp2
     go_roundw
     case rel =>
      have q := (h2.s1 (.int .u64 (y : Int))).s1 (.int .u64 (wk f 1 i))
      rw [hs0.out, hs2.out, hs3.out] at q
      exact ⟨i, by omega, by simp, (h0.other (p := ⟨w.heap.size + 1 + 1, 1, none⟩) (by show w.heap.size ≠ w.heap.size + 1 + 1; omega) _).other (p := ⟨w.heap.size + 1 + 1, 1, none⟩) (by show w.heap.size ≠ w.heap.size + 1 + 1; omega) _, (h1.other (p := ⟨w.heap.size + 1 + 1, 1, none⟩) (by show w.heap.size + 1 ≠ w.heap.size + 1 + 1; omega) _).other (p := ⟨w.heap.size + 1 + 1, 1, none⟩) (by show w.heap.size + 1 ≠ w.heap.size + 1 + 1; omega) _, q, (hB.setCell (p := ⟨w.heap.size + 1 + 1, 1, none⟩) (by show w.heap.size ≤ w.heap.size + 1 + 1; omega) _).setCell (p := ⟨w.heap.size + 1 + 1, 1, none⟩) (by show w.heap.size ≤ w.heap.size + 1 + 1; omega) _⟩
     case measure => (simp [RowKit.intOf]) <;> omega
   ·rw [hd] at hst
    have hb := wk_lt f 2 i
    have hi64 : (i : Int) / 64 = 2 := by omega
    have e := h2.c2
    have ef := h2.fz 2
    obtain ⟨y, hy⟩ : ∃ y, y = 2 * wk f 2 (i + 1) := ⟨_, rfl⟩
    rw [← hy] at hst
    have hm : IntKind.u64.wrap ((wk f 2 (i + 1) : Int) * 2) = (y : Int) := u64_wrap _ (by omega) _ (by omega)
    have hs0 := Lib.hid (wk_same f 0 i (by omega))
    have hs1 := Lib.hid (wk_same f 1 i (by omega))
    have hs3 := Lib.hid (wk_same f 3 i (by omega))
    have HS := Lib.hid hst
    cases hv : f i
    ·rw [hv] at hc hst
     have hfin : y = wk f 2 i := by rw [hst]; simp
     have HF := Lib.hid hfin
     clear hst hfin hd hy  hv
     go_wp2
     go_roundw
     case rel =>
      have q := h2.s2 (.int .u64 (y : Int))
      rw [HF.out, hs0.out, hs1.out, hs3.out] at q
      exact ⟨i, by omega, by simp, h0.other (p := ⟨w.heap.size + 1 + 1, 2, none⟩) (by show w.heap.size ≠ w.heap.size + 1 + 1; omega) _, h1.other (p := ⟨w.heap.size + 1 + 1, 2, none⟩) (by show w.heap.size + 1 ≠ w.heap.size + 1 + 1; omega) _, by (first | exact q | (rw [HF.out]; exact q) | (have q' := q; rw [← HF.out] at q'; exact q')), hB.setCell (p := ⟨w.heap.size + 1 + 1, 2, none⟩) (by show w.heap.size ≤ w.heap.size + 1 + 1; omega) _⟩
     case measure => (simp [RowKit.intOf]) <;> omega
    ·rw [hv] at hc hst
     have hfin : y + 1 = wk f 2 i := by rw [hst]; simp
     have ha : IntKind.u64.wrap ((y : Int) + 1) = (wk f 2 i : Int) := u64_wrap _ hb _ (by omega)
     clear hst hfin hd hy  hv
     go_wp2
     go_roundw
     case rel =>
      have q := (h2.s2 (.int .u64 (y : Int))).s2 (.int .u64 (wk f 2 i))
      rw [hs0.out, hs1.out, hs3.out] at q
      exact ⟨i, by omega, by simp, (h0.other (p := ⟨w.heap.size + 1 + 1, 2, none⟩) (by show w.heap.size ≠ w.heap.size + 1 + 1; omega) _).other (p := ⟨w.heap.size + 1 + 1, 2, none⟩) (by show w.heap.size ≠ w.heap.size + 1 + 1; omega) _, (h1.other (p := ⟨w.heap.size + 1 + 1, 2, none⟩) (by show w.heap.size + 1 ≠ w.heap.size + 1 + 1; omega) _).other (p := ⟨w.heap.size + 1 + 1, 2, none⟩) (by show w.heap.size + 1 ≠ w.heap.size + 1 + 1; omega) _, q, (hB.setCell (p := ⟨w.heap.size + 1 + 1, 2, none⟩) (by show w.heap.size ≤ w.heap.size + 1 + 1; omega) _).setCell (p := ⟨w.heap.size + 1 + 1, 2, none⟩) (by show w.heap.size ≤ w.heap.size + 1 + 1; omega) _⟩
     case measure => (simp [RowKit.intOf]) <;> omega
   ·rw [hd] at hst
    have hb := wk_lt f 3 i
    have hi64 : (i : Int) / 64 = 3 := by omega
    have e := h2.c3
    have ef := h2.fz 3
    obtain ⟨y, hy⟩ : ∃ y, y = 2 * wk f 3 (i + 1) := ⟨_, rfl⟩
    rw [← hy] at hst
    have hm : IntKind.u64.wrap ((wk f 3 (i + 1) : Int) * 2) = (y : Int) := u64_wrap _ (by omega) _ (by omega)
    have hs0 := Lib.hid (wk_same f 0 i (by omega))
    have hs1 := Lib.hid (wk_same f 1 i (by omega))
    have hs2 := Lib.hid (wk_same f 2 i (by omega))
    have HS := Lib.hid hst
    cases hv : f i
    ·rw [hv] at hc hst
     have hfin : y = wk f 3 i := by rw [hst]; simp
     have HF := Lib.hid hfin
     clear hst hfin hd hy  hv
     go_wp2
     go_roundw
     case rel =>
      have q := h2.s3 (.int .u64 (y : Int))
      rw [HF.out, hs0.out, hs1.out, hs2.out] at q
      exact ⟨i, by omega, by simp, h0.other (p := ⟨w.heap.size + 1 + 1, 3, none⟩) (by show w.heap.size ≠ w.heap.size + 1 + 1; omega) _, h1.other (p := ⟨w.heap.size + 1 + 1, 3, none⟩) (by show w.heap.size + 1 ≠ w.heap.size + 1 + 1; omega) _, by (first | exact q | (rw [HF.out]; exact q) | (have q' := q; rw [← HF.out] at q'; exact q')), hB.setCell (p := ⟨w.heap.size + 1 + 1, 3, none⟩) (by show w.heap.size ≤ w.heap.size + 1 + 1; omega) _⟩
     case measure => (simp [RowKit.intOf]) <;> omega
    ·rw [hv] at hc hst
     have hfin : y + 1 = wk f 3 i := by rw [hst]; simp
     have ha : IntKind.u64.wrap ((y : Int) + 1) = (wk f 3 i : Int) := u64_wrap _ hb _ (by omega)
     clear hst hfin hd hy  hv
     go_wp2
     go_roundw
     case rel =>
      have q := (h2.s3 (.int .u64 (y : Int))).s3 (.int .u64 (wk f 3 i))
      rw [hs0.out, hs1.out, hs2.out] at q
      exact ⟨i, by omega, by simp, (h0.other (p := ⟨w.heap.size + 1 + 1, 3, none⟩) (by show w.heap.size ≠ w.heap.size + 1 + 1; omega) _).other (p := ⟨w.heap.size + 1 + 1, 3, none⟩) (by show w.heap.size ≠ w.heap.size + 1 + 1; omega) _, (h1.other (p := ⟨w.heap.size + 1 + 1, 3, none⟩) (by show w.heap.size + 1 ≠ w.heap.size + 1 + 1; omega) _).other (p := ⟨w.heap.size + 1 + 1, 3, none⟩) (by show w.heap.size + 1 ≠ w.heap.size + 1 + 1; omega) _, q, (hB.setCell (p := ⟨w.heap.size + 1 + 1, 3, none⟩) (by show w.heap.size ≤ w.heap.size + 1 + 1; omega) _).setCell (p := ⟨w.heap.size + 1 + 1, 3, none⟩) (by show w.heap.size ≤ w.heap.size + 1 + 1; omega) _⟩
     case measure => (simp [RowKit.intOf]) <;> omega
end Go.Proofs.YtkcbknfhckomcaaGreatDoor
namespace Go.Proofs.YtkcbknfhckomcaaGreatDoor
open Go.RowKit
theorem store_fresh2 (w : World) (o : Obj) : (storeCells ⟨w.heap.size + 1 + 1, 0, none⟩ (barr fun _ => false).toList).run Tryz.prog (((w.alloc o).alloc (.cells (barr fun _ => false) 66)).alloc (.cells (barr fun _ => false) 66)) = .ok () (((w.alloc o).alloc (.cells (barr fun _ => false) 66)).alloc (.cells (barr fun _ => false) 66)) := by
 have := store_fresh (w.alloc o)
 rwa [World.size_alloc] at this
theorem wk_half (f : Nat → Bool) (i : Nat) : wk f (i / 64) i / 2 = wk f (i / 64) (i + 1) := by
 have := wk_step f i
 cases hv : f i <;> rw [hv] at this <;> simp at this <;> omega
theorem wk_odd (f : Nat → Bool) (i : Nat) : wk f (i / 64) i % 2 = (f i).toNat := by
 have := wk_step f i
 cases hv : f i <;> rw [hv] at this <;> simp at this <;> simp <;> omega
theorem told0_c (f : Nat → Bool) (w : World) :
  Calls Tryz.prog 31 #[sv f] w fun e w' => e = .returned (bv f) ∧ Below w.heap.size w w' := by
 obtain ⟨hz, hsz⟩ := zero_of_info (P := Tryz.prog) info27
 have hst0 := store_fresh2 w (.cells #[.int .u64 (wd f 0), .int .u64 (wd f 1), .int .u64 (wd f 2), .int .u64 (wd f 3)] 37)
 unfold bv sv
 go_enter Tryz.func31, Tryz.ntmps31
 go_wp2
 clear hst0
 go_loopw [4] (fun i wr => ∃ k : Nat, k ≤ 256 ∧ i = .int .i64 k ∧ Four wr w.heap.size 37 (.int .u64 (wk f 0 k)) (.int .u64 (wk f 1 k)) (.int .u64 (wk f 2 k)) (.int .u64 (wk f 3 k)) ∧ Row wr (w.heap.size + 1) (fun _ => false) ∧ Row wr (w.heap.size + 1 + 1) (fun j => decide (j < k) && f j) ∧ Below w.heap.size w wr) (fun i _ => 256 - (RowKit.intOf i).toNat)
 case atStart =>
  refine ⟨0, by omega, rfl, ?_, ?_, ?_, (((Below.refl _ w).alloc (Nat.le_refl _) _).alloc (by simp) _).alloc (by simp; omega) _⟩
  ·rw [wk_zero, wk_zero, wk_zero, wk_zero]
   exact ((Four.new w _ _ _ _ _).alloc _).alloc _
  ·have := Row.new (w.alloc (.cells #[.int .u64 (wd f 0), .int .u64 (wd f 1), .int .u64 (wd f 2), .int .u64 (wd f 3)] 37)) (fun _ => false)
   rw [World.size_alloc] at this
   exact this.alloc _
  ·have := Row.new ((w.alloc (.cells #[.int .u64 (wd f 0), .int .u64 (wd f 1), .int .u64 (wd f 2), .int .u64 (wd f 3)] 37)).alloc (.cells (barr fun _ => false) 66)) (fun _ => false)
   rw [World.size_alloc, World.size_alloc] at this
   exact this.congr fun i _ => by simp
 case round =>
  obtain ⟨i, hk, rfl, h2, h0, h1, hB⟩ := hrel
  by_cases hlt : i < 256
  ·have hc := h1.cell i hlt
   have hcf := h1.fz i
   have ho := wk_odd f i
   have hh := wk_half f i
   have hfin : ∀ j, j < 256 → (if j = i then f i else (decide (j < i) && f j)) = (decide (j < i + 1) && f j) := fun j _ => by
    by_cases e : j = i
    ·subst e; simp
    ·have e2 : decide (j < i + 1) = decide (j < i) := decide_eq_decide.2 (by omega)
     simp [e, e2]
   have HF := Lib.hid hfin
   clear hfin
   rcases (by omega : i / 64 = 0 ∨ i / 64 = 1 ∨ i / 64 = 2 ∨ i / 64 = 3) with hd | hd | hd | hd
   ·rw [hd] at ho hh
    have hb := wk_lt f 0 i
    have hi64 : (i : Int) / 64 = 0 := by omega
    have e := h2.c0
    have ef := h2.fz 0
    have hv : ((wk f 0 i : Int) % 2 == 1) = f i := by
     cases hfi : f i <;> rw [hfi] at ho <;> simp at ho <;> simp <;> omega
    have hq : (wk f 0 i : Int) / 2 = (wk f 0 (i + 1) : Int) := by omega
    have hs1 := Lib.hid (wk_same f 1 i (by omega))
    have hs2 := Lib.hid (wk_same f 2 i (by omega))
    have hs3 := Lib.hid (wk_same f 3 i (by omega))
    clear ho hh hd
    go_wp2
    go_roundw
    case rel =>
     have q := (h2.other (p := ⟨w.heap.size + 1 + 1, i, none⟩) (by show w.heap.size ≠ w.heap.size + 1 + 1; omega) (.bool (f i))).s0 (.int .u64 (wk f 0 (i + 1)))
     rw [← hs1.out, ← hs2.out, ← hs3.out] at q
     exact ⟨i + 1, by omega, by simp, q, (h0.other (p := ⟨w.heap.size + 1 + 1, i, none⟩) (by show w.heap.size + 1 ≠ w.heap.size + 1 + 1; omega) _).other (p := ⟨w.heap.size, 0, none⟩) (by show w.heap.size + 1 ≠ w.heap.size; omega) _,
      ((h1.set i (f i)).congr HF.out).other (p := ⟨w.heap.size, 0, none⟩) (by show w.heap.size + 1 + 1 ≠ w.heap.size; omega) _, (hB.setCell (p := ⟨w.heap.size + 1 + 1, i, none⟩) (by show w.heap.size ≤ w.heap.size + 1 + 1; omega) _).setCell (p := ⟨w.heap.size, 0, none⟩) (Nat.le_refl _) _⟩
    case measure => (simp [RowKit.intOf]) <;> omega
   ·rw [hd] at ho hh
    have hb := wk_lt f 1 i
    have hi64 : (i : Int) / 64 = 1 := by omega
    have e := h2.c1
    have ef := h2.fz 1
    have hv : ((wk f 1 i : Int) % 2 == 1) = f i := by
     cases hfi : f i <;> rw [hfi] at ho <;> simp at ho <;> simp <;> omega
    have hq : (wk f 1 i : Int) / 2 = (wk f 1 (i + 1) : Int) := by omega
    have hs0 := Lib.hid (wk_same f 0 i (by omega))
    have hs2 := Lib.hid (wk_same f 2 i (by omega))
    have hs3 := Lib.hid (wk_same f 3 i (by omega))
    clear ho hh hd
    go_wp2
    go_roundw
    case rel =>
     have q := (h2.other (p := ⟨w.heap.size + 1 + 1, i, none⟩) (by show w.heap.size ≠ w.heap.size + 1 + 1; omega) (.bool (f i))).s1 (.int .u64 (wk f 1 (i + 1)))
     rw [← hs0.out, ← hs2.out, ← hs3.out] at q
     exact ⟨i + 1, by omega, by simp, q, (h0.other (p := ⟨w.heap.size + 1 + 1, i, none⟩) (by show w.heap.size + 1 ≠ w.heap.size + 1 + 1; omega) _).other (p := ⟨w.heap.size, 1, none⟩) (by show w.heap.size + 1 ≠ w.heap.size; omega) _,
      ((h1.set i (f i)).congr HF.out).other (p := ⟨w.heap.size, 1, none⟩) (by show w.heap.size + 1 + 1 ≠ w.heap.size; omega) _, (hB.setCell (p := ⟨w.heap.size + 1 + 1, i, none⟩) (by show w.heap.size ≤ w.heap.size + 1 + 1; omega) _).setCell (p := ⟨w.heap.size, 1, none⟩) (Nat.le_refl _) _⟩
    case measure => (simp [RowKit.intOf]) <;> omega
   ·rw [hd] at ho hh
    have hb := wk_lt f 2 i
    have hi64 : (i : Int) / 64 = 2 := by omega
    have e := h2.c2
    have ef := h2.fz 2
    have hv : ((wk f 2 i : Int) % 2 == 1) = f i := by
     cases hfi : f i <;> rw [hfi] at ho <;> simp at ho <;> simp <;> omega
    have hq : (wk f 2 i : Int) / 2 = (wk f 2 (i + 1) : Int) := by omega
    have hs0 := Lib.hid (wk_same f 0 i (by omega))
    have hs1 := Lib.hid (wk_same f 1 i (by omega))
    have hs3 := Lib.hid (wk_same f 3 i (by omega))
    clear ho hh hd
    go_wp2
    go_roundw
    case rel =>
     have q := (h2.other (p := ⟨w.heap.size + 1 + 1, i, none⟩) (by show w.heap.size ≠ w.heap.size + 1 + 1; omega) (.bool (f i))).s2 (.int .u64 (wk f 2 (i + 1)))
     rw [← hs0.out, ← hs1.out, ← hs3.out] at q
     exact ⟨i + 1, by omega, by simp, q, (h0.other (p := ⟨w.heap.size + 1 + 1, i, none⟩) (by show w.heap.size + 1 ≠ w.heap.size + 1 + 1; omega) _).other (p := ⟨w.heap.size, 2, none⟩) (by show w.heap.size + 1 ≠ w.heap.size; omega) _,
      ((h1.set i (f i)).congr HF.out).other (p := ⟨w.heap.size, 2, none⟩) (by show w.heap.size + 1 + 1 ≠ w.heap.size; omega) _, (hB.setCell (p := ⟨w.heap.size + 1 + 1, i, none⟩) (by show w.heap.size ≤ w.heap.size + 1 + 1; omega) _).setCell (p := ⟨w.heap.size, 2, none⟩) (Nat.le_refl _) _⟩
    case measure => (simp [RowKit.intOf]) <;> omega
   ·rw [hd] at ho hh
    have hb := wk_lt f 3 i
    have hi64 : (i : Int) / 64 = 3 := by omega
    have e := h2.c3
    have ef := h2.fz 3
    have hv : ((wk f 3 i : Int) % 2 == 1) = f i := by
     cases hfi : f i <;> rw [hfi] at ho <;> simp at ho <;> simp <;> omega
    have hq : (wk f 3 i : Int) / 2 = (wk f 3 (i + 1) : Int) := by omega
    have hs0 := Lib.hid (wk_same f 0 i (by omega))
    have hs1 := Lib.hid (wk_same f 1 i (by omega))
    have hs2 := Lib.hid (wk_same f 2 i (by omega))
    clear ho hh hd
    go_wp2
    go_roundw
    case rel =>
     have q := (h2.other (p := ⟨w.heap.size + 1 + 1, i, none⟩) (by show w.heap.size ≠ w.heap.size + 1 + 1; omega) (.bool (f i))).s3 (.int .u64 (wk f 3 (i + 1)))
     rw [← hs0.out, ← hs1.out, ← hs2.out] at q
     exact ⟨i + 1, by omega, by simp, q, (h0.other (p := ⟨w.heap.size + 1 + 1, i, none⟩) (by show w.heap.size + 1 ≠ w.heap.size + 1 + 1; omega) _).other (p := ⟨w.heap.size, 3, none⟩) (by show w.heap.size + 1 ≠ w.heap.size; omega) _,
      ((h1.set i (f i)).congr HF.out).other (p := ⟨w.heap.size, 3, none⟩) (by show w.heap.size + 1 + 1 ≠ w.heap.size; omega) _, (hB.setCell (p := ⟨w.heap.size + 1 + 1, i, none⟩) (by show w.heap.size ≤ w.heap.size + 1 + 1; omega) _).setCell (p := ⟨w.heap.size, 3, none⟩) (Nat.le_refl _) _⟩
    case measure => (simp [RowKit.intOf]) <;> omega
  ·obtain rfl : i = 256 := by omega
   have h1 := h1.congr (g := f) (fun i hi => by simp [hi])
   have hst := h0.storeCells
   go_wp2
   refine wp_load_row h1 rfl rfl ?_
   go_wp2
   have q := h0.put f
   have ql := q.load
   refine bodyPost_ret (v := .agg (barr f)) ?_ rfl ⟨rfl, Below.setRow hB (by omega) _⟩
   simp [results, Tryz.results31, asAddr, Result.andThen, ql]
end Go.Proofs.YtkcbknfhckomcaaGreatDoor
namespace Go.Proofs.YtkcbknfhckomcaaGreatDoor
open Go.RowKit
def part (f : Nat → Bool) (k j : Nat) : Bool := if (65 ≤ j ∧ j < k) ∨ (97 ≤ j ∧ j < k + 32) then foldF f j else f j
end Go.Proofs.YtkcbknfhckomcaaGreatDoor
namespace Go.Proofs.YtkcbknfhckomcaaGreatDoor
open Go.RowKit
theorem Row.kept {A B : World} {row : Option Nat} {b : Nat} {f : Nat → Bool} (h : Row A b f) (hg : A.grownBy B row) (hr : row ≠ some b) : Row B b f := ⟨(hg.block b h.lt (fun e => hr e.symm)).trans h.heap⟩
theorem own_ne {W : World} {base k n : Nat} {v : Value} {xs : List Value} (h : W.ownsRow base 5 1 v k xs) (hn : n < base) : v.ownBlock ≠ some n := by
 rcases h.2 with ⟨rfl, _⟩ | ⟨g, cap, cur, rfl, hb, _⟩
 ·simp [Value.ownBlock]
 ·intro e
  have : g = n := by simpa [Value.ownBlock] using e
  omega
theorem own_ge {W : World} {base k n : Nat} {v : Value} {xs : List Value} (h : W.ownsRow base 5 1 v k xs) (hn : v.ownBlock = some n) : base ≤ n := by
 rcases h.2 with ⟨rfl, _⟩ | ⟨g, cap, cur, rfl, hb, _⟩
 ·simp [Value.ownBlock] at hn
 ·have : g = n := by simpa [Value.ownBlock] using hn
  omega
theorem rbytes_c (f : Nat → Bool) (w : World) :
  Calls Tryz.prog 71 #[bv f] w fun e w' => e = .returned (.string (bytesOf f)) ∧ Below w.heap.size w w' := by
 obtain ⟨hz, hsz⟩ := zero_of_info (P := Tryz.prog) info27
 obtain ⟨i0, hi, hz0, hz1, hz2⟩ := info_parts infoU8
 unfold bv
 go_enter Tryz.func71, Tryz.ntmps71
 go_wp2
 go_loopw [3, 4] (fun v i wr => ∃ k : Nat, k ≤ 256 ∧ i = .int .i64 k ∧ Row wr w.heap.size f ∧ wr.ownsRow (w.heap.size + 1) 5 1 v (U f k).length ((nums (U f k)).map (Value.int .u8)) ∧ Below w.heap.size w wr) (fun _ i _ => 256 - (RowKit.intOf i).toNat)
 case atStart =>
  refine ⟨0, by omega, rfl, (Row.new w f).alloc _, ⟨rfl, .inr ⟨_, 0, #[], rfl, Nat.le_refl _, ?_, Nat.le_refl _, by unfold maxLen; omega, rfl, rfl⟩⟩, ((Below.refl _ w).alloc (Nat.le_refl _) _).alloc (by simp) _⟩
  show ((w.heap.push (Obj.cells (barr f) 66)).push (Obj.cells #[] 5))[w.heap.size + 1]? = _
  rw [show w.heap.size + 1 = (w.heap.push (Obj.cells (barr f) 66)).size from (Array.size_push _).symm]
  exact Array.getElem?_push_size
 case round =>
  obtain ⟨k, hk, rfl, h0, hown, hB⟩ := hrel
  by_cases hlt : k < 256
  ·have hc := h0.cell k hlt
   have hlen := U_length f k hk
   have hcnt := cnt_le f k
   cases hfk : f k
   ·rw [hfk] at hc
    have hU := U_miss hfk
    go_wp2
    go_roundw
    case rel =>
     refine ⟨k + 1, by omega, by simp, h0, ?_, hB⟩
     rw [hU]; exact hown
    case measure => (simp [RowKit.intOf]) <;> omega
   ·rw [hfk] at hc
    have hU := U_hit hlt hfk
    have hsz1 := h0.lt
    have hsz0 := hB.size
    go_wp2_with (at_builtin; refine wpList_append_own _ rfl _ _ 97 rfl (w.heap.size + 1) 5 i0 (.int .u8 0) 1 1 Tryz.underlying97 hi hz0 hz1 hz2 rfl (by decide) _ _ _ rfl (hown.alloc _) ⟨wr.heap.size, 0, none⟩ 1 1 [.int .u8 k] rfl rfl (cell_one_new _ _ _) (by simp [Value.oneCell']) (by unfold maxLen; omega) (by omega) (by simp; omega) ?_; intro v' w3 hown' hgrow' _)
    go_roundw
    case rel =>
     refine ⟨k + 1, by omega, by simp, (h0.alloc _).kept hgrow' (own_ne hown (by omega)), ?_, (hB.alloc (by omega) _).grown hgrow' (by simp; omega) fun n hn => Nat.le_trans (by omega) (own_ge hown hn)⟩
     rw [hU]
     simpa [nums] using hown'
    case measure => (simp [RowKit.intOf]) <;> omega
  ·obtain rfl : k = 256 := by omega
   have hcv := convert_own hown
   go_wp2
   go_ret
   exact ⟨rfl, hB⟩
end Go.Proofs.YtkcbknfhckomcaaGreatDoor
namespace Go.Proofs.YtkcbknfhckomcaaGreatDoor
open Go.RowKit
theorem rrange_c (a b : Nat) (ha : a < 256) (hb : b < 256) (w : World) :
  Calls Tryz.prog 74 #[.int .u8 a, .int .u8 b] w fun e w' => e = .returned (bv (rg a b)) ∧ Below w.heap.size w w' := by
 obtain ⟨hz, hsz⟩ := zero_of_info (P := Tryz.prog) info27
 have hst0 := store_fresh w
 unfold bv
 go_enter Tryz.func74, Tryz.ntmps74
 go_wp2
 clear hst0
 go_loopw [6] (fun i wr => ∃ k : Nat, a ≤ k ∧ (k ≤ b + 1 ∨ k = a) ∧ i = .int .i64 k ∧ Row wr w.heap.size (fun _ => false) ∧ Row wr (w.heap.size + 1) (fun j => decide (a ≤ j) && decide (j < k)) ∧ Below w.heap.size w wr) (fun i _ => 256 - (RowKit.intOf i).toNat)
 case atStart =>
  refine ⟨a, Nat.le_refl _, .inr rfl, rfl, (Row.new w _).alloc _, ?_, ((Below.refl _ w).alloc (Nat.le_refl _) _).alloc (by simp) _⟩
  have := Row.new (w.alloc (.cells (barr fun _ => false) 66)) (fun _ => false)
  rw [World.size_alloc] at this
  refine this.congr fun i _ => ?_
  have e : ¬ (a ≤ i ∧ i < a) := by omega
  rw [← Bool.decide_and, decide_eq_false e]
 case round =>
  obtain ⟨k, hak, hk, rfl, h0, h1, hB⟩ := hrel
  by_cases hlt : k ≤ b
  ·have hc := h1.cell k (by omega)
   have hcf := h1.fz k
   have hlt2 : k < 256 := by omega
   go_wp2
   go_roundw
   case rel =>
    refine ⟨k + 1, by omega, .inl (by omega), by simp, h0.other (p := ⟨w.heap.size + 1, k, none⟩) (by show w.heap.size ≠ w.heap.size + 1; omega) _, (h1.set k true).congr fun i _ => ?_, hB.setCell (p := ⟨w.heap.size + 1, k, none⟩) (by show w.heap.size ≤ w.heap.size + 1; omega) _⟩
    by_cases e : i = k
    ·subst e; simp [hak]
    ·have e2 : decide (i < k + 1) = decide (i < k) := decide_eq_decide.2 (by omega)
     simp [e, e2]
   case measure => (simp [RowKit.intOf]) <;> omega
  ·have h1 := h1.congr (g := rg a b) (fun i hi => by
    unfold rg
    rw [← Bool.decide_and, ← Bool.decide_and]
    exact decide_eq_decide.2 (by omega))
   have hst := h0.storeCells
   go_wp2
   refine wp_load_row h1 rfl rfl ?_
   go_wp2
   have q := h0.put (rg a b)
   have ql := q.load
   refine bodyPost_ret (v := .agg (barr (rg a b))) ?_ rfl ⟨rfl, Below.setRow hB (by omega) _⟩
   simp [results, Tryz.results74, asAddr, Result.andThen, ql]
theorem ror_c (f g : Nat → Bool) (w : World) :
  Calls Tryz.prog 102 #[bv f, bv g] w fun e w' => e = .returned (bv fun i => f i || g i) ∧ Below w.heap.size w w' := by
 obtain ⟨hz, hsz⟩ := zero_of_info (P := Tryz.prog) info27
 unfold bv
 go_enter Tryz.func102, Tryz.ntmps102
 go_wp2
 go_loopw [5] (fun i wr => ∃ k : Nat, k ≤ 256 ∧ i = .int .i64 k ∧ Row wr w.heap.size (fun j => if j < k then (f j || g j) else f j) ∧ Row wr (w.heap.size + 1) g ∧ Row wr (w.heap.size + 1 + 1) (fun _ => false) ∧ Below w.heap.size w wr) (fun i _ => 256 - (RowKit.intOf i).toNat)
 case atStart =>
  refine ⟨0, by omega, rfl, ?_, ?_, ?_, (((Below.refl _ w).alloc (Nat.le_refl _) _).alloc (by simp) _).alloc (by simp; omega) _⟩
  ·exact (((Row.new w f).alloc _).alloc _).congr fun i _ => by simp
  ·have := Row.new (w.alloc (.cells (barr f) 66)) g
   rw [World.size_alloc] at this
   exact this.alloc _
  ·have := Row.new ((w.alloc (.cells (barr f) 66)).alloc (.cells (barr g) 66)) (fun _ => false)
   rwa [World.size_alloc, World.size_alloc] at this
 case round =>
  obtain ⟨k, hk, rfl, h0, h1, h2, hB⟩ := hrel
  by_cases hlt : k < 256
  ·have hc := h0.cell k hlt
   rw [if_neg (by omega)] at hc
   have hf := h0.fz k
   have hg := h1.cell k hlt
   have hfin : ∀ (v : Bool), v = (f k || g k) → ∀ i, i < 256 → (if i = k then v else if i < k then (f i || g i) else f i) = (if i < k + 1 then (f i || g i) else f i) := fun v hv i _ => by
    by_cases e : i = k
    ·subst e; simp [hv]
    ·have e2 : (i < k + 1) = (i < k) := propext (by omega)
     simp [e, e2]
   have HF := Lib.hid hfin
   clear hfin
   cases hfk : f k
   ·cases hgk : g k
    all_goals (
     rw [hfk] at hc
     rw [hgk] at hg
     have HF2 := Lib.hid (HF.out _ (by rw [hfk, hgk]))
     clear hfk hgk HF
     go_wp2
     go_roundw
     case rel =>
      exact ⟨k + 1, by omega, by simp, (h0.set k _).congr HF2.out, h1.other (p := ⟨w.heap.size, k, none⟩) (by show w.heap.size + 1 ≠ w.heap.size; omega) _, h2.other (p := ⟨w.heap.size, k, none⟩) (by show w.heap.size + 1 + 1 ≠ w.heap.size; omega) _, hB.setCell (p := ⟨w.heap.size, k, none⟩) (Nat.le_refl _) _⟩
     case measure => (simp [RowKit.intOf]) <;> omega)
   ·rw [hfk] at hc
    have HF2 := Lib.hid (HF.out true (by rw [hfk]; rfl))
    clear hfk HF
    go_wp2
    go_roundw
    case rel =>
     exact ⟨k + 1, by omega, by simp, (h0.set k true).congr HF2.out, h1.other (p := ⟨w.heap.size, k, none⟩) (by show w.heap.size + 1 ≠ w.heap.size; omega) _, h2.other (p := ⟨w.heap.size, k, none⟩) (by show w.heap.size + 1 + 1 ≠ w.heap.size; omega) _, hB.setCell (p := ⟨w.heap.size, k, none⟩) (Nat.le_refl _) _⟩
    case measure => (simp [RowKit.intOf]) <;> omega
  ·obtain rfl : k = 256 := by omega
   have h0 := h0.congr (g := fun i => f i || g i) (fun i hi => by simp [hi])
   have hst := h2.storeCells
   go_wp2
   refine wp_load_row h0 rfl rfl ?_
   go_wp2
   have q := h2.put (fun i => f i || g i)
   have ql := q.load
   refine bodyPost_ret (v := .agg (barr fun i => f i || g i)) ?_ rfl ⟨rfl, Below.setRow hB (by omega) _⟩
   simp [results, Tryz.results102, asAddr, Result.andThen, ql]
end Go.Proofs.YtkcbknfhckomcaaGreatDoor
