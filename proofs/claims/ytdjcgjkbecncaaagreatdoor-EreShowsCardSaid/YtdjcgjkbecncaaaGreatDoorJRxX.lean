/- The reference's arrays of 256 bools. -/
import Derived.Test.YtdjcgjkbecncaaaGreatDoorJSetQ
import Derived.Deep.WholeRow
import Derived.Test.YtdjcgjkbecncaaaGreatDoorJSetE
import Derived.OwnWalk
import Derived.Test.YtdjcgjkbecncaaaGreatDoorJRxTd
import Derived.Deep.AppendLies
set_option linter.unusedVariables false
set_option linter.unusedSimpArgs false
set_option maxRecDepth 100000
set_option maxHeartbeats 40000000
namespace Go.Proofs.YtdjcgjkbecncaaaGreatDoor
open Go.RowKit
def barr (f : Nat → Bool) : Array Value := ((List.range 256).map fun i => Value.bool (f i)).toArray
def bv (f : Nat → Bool) : Value := .agg (barr f)
theorem barr_size (f : Nat → Bool) : (barr f).size = 256 := by simp [barr]
theorem barr_congr {f g : Nat → Bool} (h : ∀ i, i < 256 → f i = g i) : barr f = barr g := by
 unfold barr
 congr 1
 apply List.map_congr_left
 intro i hi
 rw [h i (by simpa using hi)]
theorem barr_at (f : Nat → Bool) (j : Nat) (h : j < 256) : (barr f)[j]? = some (.bool (f j)) := by simp [barr, h]
theorem barr_set (f : Nat → Bool) (j : Nat) (v : Bool) : (barr f).setIfInBounds j (.bool v) = barr (fun i => if i = j then v else f i) := by
 apply Array.ext_getElem?
 intro i
 rw [Array.getElem?_setIfInBounds]
 by_cases hi : i < 256
 ·rw [barr_at _ i hi, barr_at _ i hi, barr_size]
  by_cases e : j = i
  ·subst e; simp [hi]
  ·have e' : ¬ i = j := fun h => e h.symm
   simp [e, e']
 ·have h1 : (barr f)[i]? = none := Array.getElem?_eq_none (by rw [barr_size]; omega)
  have h2 : (barr fun k => if k = j then v else f k)[i]? = none := Array.getElem?_eq_none (by rw [barr_size]; omega)
  rw [h1, h2, barr_size]
  split <;> first | rfl | (split <;> first | rfl | omega)
theorem barr_all (f : Nat → Bool) : (barr f).all (·.oneCell') = true := by
 simp [barr, Value.oneCell']
theorem info27 : (Tryz.prog.info? 28).map (fun i => (i.zero, i.size)) = some (some (.agg (barr fun _ => false)), 256) := by kernel_rfl
structure Row (W : World) (b : Nat) (f : Nat → Bool) : Prop where
 heap : W.heap[b]? = some (.cells (barr f) 28 (0, 0))
section
variable {W : World} {b : Nat} {f : Nat → Bool}
theorem Row.lt (h : Row W b f) : b < W.heap.size := (Array.getElem?_eq_some_iff.1 h.heap).1
theorem Row.cell (h : Row W b f) (j : Nat) (hj : j < 256) : W.cell? ⟨b, j, none⟩ = some (.bool (f j)) := by simp [World.cell?, h.heap, barr_at f j hj]
theorem Row.fz (h : Row W b f) (j : Nat) : W.frozen? ⟨b, j, none⟩ = false := by simp [World.frozen?, h.heap]
theorem Row.below {B : Nat} {W' : World} (h : Row W b f) (hB : Below B W W') (hb : b < B) : Row W' b f := ⟨(hB.block b hb).trans h.heap⟩
theorem Row.alloc (h : Row W b f) (o : Obj) : Row (W.alloc o) b f := h.below (B := W.heap.size) ((Below.refl _ W).alloc (Nat.le_refl _) o) h.lt
theorem Row.set (h : Row W b f) (j : Nat) (v : Bool) : Row (W.setCell ⟨b, j, none⟩ (.bool v)) b (fun i => if i = j then v else f i) := ⟨by rw [heap_setCell_same _ b j _ _ _ h.heap, barr_set]⟩
theorem Row.other (h : Row W b f) {p : Addr} (hp : b ≠ p.block) (u : Value) : Row (W.setCell p u) b f := ⟨(Below.heap_setCell W p u b hp).trans h.heap⟩
theorem Row.new (W : World) (f : Nat → Bool) : Row (W.alloc (.cells (barr f) 28)) W.heap.size f := ⟨by show (W.heap.push _)[W.heap.size]? = _; simp⟩
theorem Row.congr {g : Nat → Bool} (h : Row W b f) (e : ∀ i, i < 256 → f i = g i) : Row W b g := ⟨by rw [← barr_congr e]; exact h.heap⟩
theorem size27 : (Tryz.prog.info? 28).map (·.size) = some 256 := (zero_of_info info27).2
theorem Row.load (h : Row W b f) : (loadVar 28 ⟨b, 0, none⟩).run Tryz.prog W = .ok (.agg (barr f)) W :=
 run_loadVar_row W b 28 28 (barr f) (0, 0) _ h.heap Tryz.underlying28 rfl (by rw [size27, barr_size])
theorem Row.loadAt (h : Row W b f) : (Instr.loadAt 28 (.pointer (some ⟨b, 0, none⟩))).run Tryz.prog W = .ok (.agg (barr f)) W := by
 simp only [Instr.loadAt, Instr.sureAddr, Sem.run_bind, Sem.run_pure, Result.andThen]
 exact h.load
theorem Row.store (h : Row W b f) (g : Nat → Bool) : (storeVar 28 ⟨b, 0, none⟩ (.agg (barr g))).run Tryz.prog W = .ok () (W.setRow b (barr g)) :=
 run_storeVar_row W b 28 28 (barr f) (barr g) h.heap (by rw [size27, barr_size]) (by rw [barr_size, barr_size]) (barr_all g)
theorem Row.storeCells (h : Row W b f) (g : Nat → Bool) : (storeCells ⟨b, 0, none⟩ (barr g).toList).run Tryz.prog W = .ok () (W.setRow b (barr g)) := by
 have := h.store g
 have hs := size27
 cases hq : Tryz.prog.info? 28 with
 | none => simp [hq] at hs
 | some i =>
  have h2 : i.size = 256 := by simpa [hq] using hs
  simpa [storeVar, sizeOf, typeInfo, hq, Value.cells, h2, barr_size] using this
theorem Row.put (h : Row W b f) (g : Nat → Bool) : Row (W.setRow b (barr g)) b g := ⟨by
 obtain ⟨hlt, hk⟩ := Array.getElem?_eq_some_iff.1 h.heap
 show (W.heap.modify b _)[b]? = _
 rw [Array.getElem?_eq_getElem (by rw [Array.size_modify]; exact hlt), Array.getElem_modify_self, hk]⟩
theorem Below.setRow {B : Nat} {a w : World} (h : Below B a w) {b : Nat} (hb : B ≤ b) (c : Array Value) : Below B a (w.setRow b c) :=
 h.trans ⟨rfl, rfl, rfl, by simp [World.setRow], fun k hk => by
  show (w.heap.modify b _)[k]? = _
  rw [Array.getElem?_modify, if_neg (by omega)]⟩
theorem wp_load_row {op : Oper} {a : Act} {K : Act → World → Prop} {Q : Exit → Act → World → Prop} {x : Operand} (h : Row W b f) (ho : op.op = .load 28 x) (hx : a.eval x = .pointer (some ⟨b, 0, none⟩))
  (hK : K (a.put op.dst (.agg (barr f))) W) : op.wp Tryz.prog a W K Q := by
 unfold Oper.wp execOp
 simp only [ho, hx, h.loadAt, Sem.run_bind, Sem.run_pure, Result.andThen_ok]
 exact hK
end
end Go.Proofs.YtdjcgjkbecncaaaGreatDoor
namespace Go.Proofs.YtdjcgjkbecncaaaGreatDoor
open Go.RowKit
theorem store_fresh (w : World) : (storeCells ⟨w.heap.size + 1, 0, none⟩ (barr fun _ => false).toList).run Tryz.prog ((w.alloc (.cells (barr fun _ => false) 28)).alloc (.cells (barr fun _ => false) 28)) = .ok () ((w.alloc (.cells (barr fun _ => false) 28)).alloc (.cells (barr fun _ => false) 28)) := by
 have := (Row.new (w.alloc (.cells (barr fun _ => false) 28)) (fun _ => false)).storeCells (fun _ => false)
 rw [World.setRow_alloc_new, World.size_alloc] at this
 exact this
def wk (f : Nat → Bool) (m k : Nat) : Nat := wd f m / 2 ^ (min 64 (k - 64 * m))
theorem wk_zero (f : Nat → Bool) (m : Nat) : wk f m 0 = wd f m := by simp [wk]
theorem wk_same (f : Nat → Bool) (m i : Nat) (h : m ≠ i / 64) : wk f m (i + 1) = wk f m i := by
 unfold wk
 congr 2
 rcases Nat.lt_or_gt_of_ne h with h1 | h1
 ·have : 64 * m + 64 ≤ i := by omega
  omega
 ·have : i + 1 ≤ 64 * m := by omega
  omega
theorem wk_step (f : Nat → Bool) (i : Nat) : wk f (i / 64) i = 2 * wk f (i / 64) (i + 1) + (f i).toNat := by
 unfold wk
 have e1 : min 64 (i - 64 * (i / 64)) = i % 64 := by omega
 have e2 : min 64 (i + 1 - 64 * (i / 64)) = i % 64 + 1 := by omega
 have hb := wd_has f (i / 64) (i % 64) (by omega)
 rw [show 64 * (i / 64) + i % 64 = i by omega] at hb
 rw [e1, e2, ← hb, Nat.pow_succ, ← Nat.div_div_eq_div_mul]
 omega
theorem wk_lt (f : Nat → Bool) (m k : Nat) : wk f m k < 18446744073709551616 := Nat.lt_of_le_of_lt (Nat.div_le_self _ _) (wd_lt f m)
end Go.Proofs.YtdjcgjkbecncaaaGreatDoor
namespace Go.Proofs.YtdjcgjkbecncaaaGreatDoor
open Go.RowKit
theorem store_fresh2 (w : World) (o : Obj) : (storeCells ⟨w.heap.size + 1 + 1, 0, none⟩ (barr fun _ => false).toList).run Tryz.prog (((w.alloc o).alloc (.cells (barr fun _ => false) 28)).alloc (.cells (barr fun _ => false) 28)) = .ok () (((w.alloc o).alloc (.cells (barr fun _ => false) 28)).alloc (.cells (barr fun _ => false) 28)) := by
 have := store_fresh (w.alloc o)
 rwa [World.size_alloc] at this
theorem wk_half (f : Nat → Bool) (i : Nat) : wk f (i / 64) i / 2 = wk f (i / 64) (i + 1) := by
 have := wk_step f i
 cases hv : f i <;> rw [hv] at this <;> simp at this <;> omega
theorem wk_odd (f : Nat → Bool) (i : Nat) : wk f (i / 64) i % 2 = (f i).toNat := by
 have := wk_step f i
 cases hv : f i <;> rw [hv] at this <;> simp at this <;> simp <;> omega
theorem told0_c (f : Nat → Bool) (w : World) :
  Calls Tryz.prog 11 #[sv f] w fun e w' => e = .returned (bv f) ∧ Below w.heap.size w w' := by
 obtain ⟨hz, hsz⟩ := zero_of_info (P := Tryz.prog) info27
 have hst0 := store_fresh2 w (.cells #[.int .u64 (wd f 0), .int .u64 (wd f 1), .int .u64 (wd f 2), .int .u64 (wd f 3)] 23)
 unfold bv sv
 go_enter Tryz.func11, Tryz.ntmps11
 go_wp2
 clear hst0
 go_loopw [4] (fun i wr => ∃ k : Nat, k ≤ 256 ∧ i = .int .i64 k ∧ Four wr w.heap.size 23 (.int .u64 (wk f 0 k)) (.int .u64 (wk f 1 k)) (.int .u64 (wk f 2 k)) (.int .u64 (wk f 3 k)) ∧ Row wr (w.heap.size + 1) (fun _ => false) ∧ Row wr (w.heap.size + 1 + 1) (fun j => decide (j < k) && f j) ∧ Below w.heap.size w wr) (fun i _ => 256 - (RowKit.intOf i).toNat)
 case atStart =>
  refine ⟨0, by omega, rfl, ?_, ?_, ?_, (((Below.refl _ w).alloc (Nat.le_refl _) _).alloc (by simp) _).alloc (by simp; omega) _⟩
  ·rw [wk_zero, wk_zero, wk_zero, wk_zero]
   exact ((Four.new w _ _ _ _ _).alloc _).alloc _
  ·have := Row.new (w.alloc (.cells #[.int .u64 (wd f 0), .int .u64 (wd f 1), .int .u64 (wd f 2), .int .u64 (wd f 3)] 23)) (fun _ => false)
   rw [World.size_alloc] at this
   exact this.alloc _
  ·have := Row.new ((w.alloc (.cells #[.int .u64 (wd f 0), .int .u64 (wd f 1), .int .u64 (wd f 2), .int .u64 (wd f 3)] 23)).alloc (.cells (barr fun _ => false) 28)) (fun _ => false)
   rw [World.size_alloc, World.size_alloc] at this
   exact this.congr fun i _ => by simp
 case round =>
  obtain ⟨i, hk, rfl, h2, h0, h1, hB⟩ := hrel
  by_cases hlt : i < 256
  ·have hc := h1.cell i hlt
   have hcf := h1.fz i
   have ho := wk_odd f i
   have hh := wk_half f i
   have hfin : ∀ j, j < 256 → (if j = i then f i else (decide (j < i) && f j)) = (decide (j < i + 1) && f j) := fun j _ => by
    by_cases e : j = i
    ·subst e; simp
    ·have e2 : decide (j < i + 1) = decide (j < i) := decide_eq_decide.2 (by omega)
     simp [e, e2]
   have HF := Lib.hid hfin
   clear hfin
   rcases (by omega : i / 64 = 0 ∨ i / 64 = 1 ∨ i / 64 = 2 ∨ i / 64 = 3) with hd | hd | hd | hd
   ·rw [hd] at ho hh
    have hb := wk_lt f 0 i
    have hi64 : (i : Int) / 64 = 0 := by omega
    have e := h2.c0
    have ef := h2.fz 0
    have hv : ((wk f 0 i : Int) % 2 == 1) = f i := by
     cases hfi : f i <;> rw [hfi] at ho <;> simp at ho <;> simp <;> omega
    have hq : (wk f 0 i : Int) / 2 = (wk f 0 (i + 1) : Int) := by omega
    have hs1 := Lib.hid (wk_same f 1 i (by omega))
    have hs2 := Lib.hid (wk_same f 2 i (by omega))
    have hs3 := Lib.hid (wk_same f 3 i (by omega))
    clear ho hh hd
    go_wp2
    go_roundw
    case rel =>
     have q := (h2.other (p := ⟨w.heap.size + 1 + 1, i, none⟩) (by show w.heap.size ≠ w.heap.size + 1 + 1; omega) (.bool (f i))).s0 (.int .u64 (wk f 0 (i + 1)))
     rw [← hs1.out, ← hs2.out, ← hs3.out] at q
     exact ⟨i + 1, by omega, by simp, q, (h0.other (p := ⟨w.heap.size + 1 + 1, i, none⟩) (by show w.heap.size + 1 ≠ w.heap.size + 1 + 1; omega) _).other (p := ⟨w.heap.size, 0, none⟩) (by show w.heap.size + 1 ≠ w.heap.size; omega) _,
      ((h1.set i (f i)).congr HF.out).other (p := ⟨w.heap.size, 0, none⟩) (by show w.heap.size + 1 + 1 ≠ w.heap.size; omega) _, (hB.setCell (p := ⟨w.heap.size + 1 + 1, i, none⟩) (by show w.heap.size ≤ w.heap.size + 1 + 1; omega) _).setCell (p := ⟨w.heap.size, 0, none⟩) (Nat.le_refl _) _⟩
    case measure => (simp [RowKit.intOf]) <;> omega
   ·rw [hd] at ho hh
    have hb := wk_lt f 1 i
    have hi64 : (i : Int) / 64 = 1 := by omega
    have e := h2.c1
    have ef := h2.fz 1
    have hv : ((wk f 1 i : Int) % 2 == 1) = f i := by
     cases hfi : f i <;> rw [hfi] at ho <;> simp at ho <;> simp <;> omega
    have hq : (wk f 1 i : Int) / 2 = (wk f 1 (i + 1) : Int) := by omega
    have hs0 := Lib.hid (wk_same f 0 i (by omega))
    have hs2 := Lib.hid (wk_same f 2 i (by omega))
    have hs3 := Lib.hid (wk_same f 3 i (by omega))
    clear ho hh hd
    go_wp2
    go_roundw
    case rel =>
     have q := (h2.other (p := ⟨w.heap.size + 1 + 1, i, none⟩) (by show w.heap.size ≠ w.heap.size + 1 + 1; omega) (.bool (f i))).s1 (.int .u64 (wk f 1 (i + 1)))
     rw [← hs0.out, ← hs2.out, ← hs3.out] at q
     exact ⟨i + 1, by omega, by simp, q, (h0.other (p := ⟨w.heap.size + 1 + 1, i, none⟩) (by show w.heap.size + 1 ≠ w.heap.size + 1 + 1; omega) _).other (p := ⟨w.heap.size, 1, none⟩) (by show w.heap.size + 1 ≠ w.heap.size; omega) _,
      ((h1.set i (f i)).congr HF.out).other (p := ⟨w.heap.size, 1, none⟩) (by show w.heap.size + 1 + 1 ≠ w.heap.size; omega) _, (hB.setCell (p := ⟨w.heap.size + 1 + 1, i, none⟩) (by show w.heap.size ≤ w.heap.size + 1 + 1; omega) _).setCell (p := ⟨w.heap.size, 1, none⟩) (Nat.le_refl _) _⟩
    case measure => (simp [RowKit.intOf]) <;> omega
   ·rw [hd] at ho hh
    have hb := wk_lt f 2 i
    have hi64 : (i : Int) / 64 = 2 := by omega
    have e := h2.c2
    have ef := h2.fz 2
    have hv : ((wk f 2 i : Int) % 2 == 1) = f i := by
     cases hfi : f i <;> rw [hfi] at ho <;> simp at ho <;> simp <;> omega
    have hq : (wk f 2 i : Int) / 2 = (wk f 2 (i + 1) : Int) := by omega
    have hs0 := Lib.hid (wk_same f 0 i (by omega))
    have hs1 := Lib.hid (wk_same f 1 i (by omega))
    have hs3 := Lib.hid (wk_same f 3 i (by omega))
    clear ho hh hd
    go_wp2
    go_roundw
    case rel =>
     have q := (h2.other (p := ⟨w.heap.size + 1 + 1, i, none⟩) (by show w.heap.size ≠ w.heap.size + 1 + 1; omega) (.bool (f i))).s2 (.int .u64 (wk f 2 (i + 1)))
     rw [← hs0.out, ← hs1.out, ← hs3.out] at q
     exact ⟨i + 1, by omega, by simp, q, (h0.other (p := ⟨w.heap.size + 1 + 1, i, none⟩) (by show w.heap.size + 1 ≠ w.heap.size + 1 + 1; omega) _).other (p := ⟨w.heap.size, 2, none⟩) (by show w.heap.size + 1 ≠ w.heap.size; omega) _,
      ((h1.set i (f i)).congr HF.out).other (p := ⟨w.heap.size, 2, none⟩) (by show w.heap.size + 1 + 1 ≠ w.heap.size; omega) _, (hB.setCell (p := ⟨w.heap.size + 1 + 1, i, none⟩) (by show w.heap.size ≤ w.heap.size + 1 + 1; omega) _).setCell (p := ⟨w.heap.size, 2, none⟩) (Nat.le_refl _) _⟩
    case measure => (simp [RowKit.intOf]) <;> omega
   ·rw [hd] at ho hh
    have hb := wk_lt f 3 i
    have hi64 : (i : Int) / 64 = 3 := by omega
    have e := h2.c3
    have ef := h2.fz 3
    have hv : ((wk f 3 i : Int) % 2 == 1) = f i := by
     cases hfi : f i <;> rw [hfi] at ho <;> simp at ho <;> simp <;> omega
    have hq : (wk f 3 i : Int) / 2 = (wk f 3 (i + 1) : Int) := by omega
    have hs0 := Lib.hid (wk_same f 0 i (by omega))
    have hs1 := Lib.hid (wk_same f 1 i (by omega))
    have hs2 := Lib.hid (wk_same f 2 i (by omega))
    clear ho hh hd
    go_wp2
    go_roundw
    case rel =>
     have q := (h2.other (p := ⟨w.heap.size + 1 + 1, i, none⟩) (by show w.heap.size ≠ w.heap.size + 1 + 1; omega) (.bool (f i))).s3 (.int .u64 (wk f 3 (i + 1)))
     rw [← hs0.out, ← hs1.out, ← hs2.out] at q
     exact ⟨i + 1, by omega, by simp, q, (h0.other (p := ⟨w.heap.size + 1 + 1, i, none⟩) (by show w.heap.size + 1 ≠ w.heap.size + 1 + 1; omega) _).other (p := ⟨w.heap.size, 3, none⟩) (by show w.heap.size + 1 ≠ w.heap.size; omega) _,
      ((h1.set i (f i)).congr HF.out).other (p := ⟨w.heap.size, 3, none⟩) (by show w.heap.size + 1 + 1 ≠ w.heap.size; omega) _, (hB.setCell (p := ⟨w.heap.size + 1 + 1, i, none⟩) (by show w.heap.size ≤ w.heap.size + 1 + 1; omega) _).setCell (p := ⟨w.heap.size, 3, none⟩) (Nat.le_refl _) _⟩
    case measure => (simp [RowKit.intOf]) <;> omega
  ·obtain rfl : i = 256 := by omega
   have h1 := h1.congr (g := f) (fun i hi => by simp [hi])
   have hst := h0.storeCells
   go_wp2
   refine wp_load_row h1 rfl rfl ?_
   go_wp2
   have q := h0.put f
   have ql := q.load
   refine bodyPost_ret (v := .agg (barr f)) ?_ rfl ⟨rfl, Below.setRow hB (by omega) _⟩
   simp [results, Tryz.results11, asAddr, Result.andThen, ql]
end Go.Proofs.YtdjcgjkbecncaaaGreatDoor
namespace Go.Proofs.YtdjcgjkbecncaaaGreatDoor
open Go.RowKit
def part (f : Nat → Bool) (k j : Nat) : Bool := if (65 ≤ j ∧ j < k) ∨ (97 ≤ j ∧ j < k + 32) then foldF f j else f j
end Go.Proofs.YtdjcgjkbecncaaaGreatDoor
namespace Go.Proofs.YtdjcgjkbecncaaaGreatDoor
open Go.RowKit
theorem Row.kept {A B : World} {row : Option Nat} {b : Nat} {f : Nat → Bool} (h : Row A b f) (hg : A.grownBy B row) (hr : row ≠ some b) : Row B b f := ⟨(hg.block b h.lt (fun e => hr e.symm)).trans h.heap⟩
theorem own_ne {W : World} {base k n : Nat} {v : Value} {xs : List Value} (h : W.ownsRow base 5 1 v k xs) (hn : n < base) : v.ownBlock ≠ some n := by
 rcases h.2 with ⟨rfl, _⟩ | ⟨g, cap, cur, rfl, hb, _⟩
 ·simp [Value.ownBlock]
 ·intro e
  have : g = n := by simpa [Value.ownBlock] using e
  omega
theorem own_ge {W : World} {base k n : Nat} {v : Value} {xs : List Value} (h : W.ownsRow base 5 1 v k xs) (hn : v.ownBlock = some n) : base ≤ n := by
 rcases h.2 with ⟨rfl, _⟩ | ⟨g, cap, cur, rfl, hb, _⟩
 ·simp [Value.ownBlock] at hn
 ·have : g = n := by simpa [Value.ownBlock] using hn
  omega
theorem rbytes_c (f : Nat → Bool) (w : World) :
  Calls Tryz.prog 54 #[bv f] w fun e w' => e = .returned (.string (bytesOf f)) ∧ Below w.heap.size w w' := by
 obtain ⟨hz, hsz⟩ := zero_of_info (P := Tryz.prog) info27
 obtain ⟨i0, hi, hz0, hz1, hz2⟩ := info_parts infoU8
 unfold bv
 go_enter Tryz.func54, Tryz.ntmps54
 go_wp2
 go_loopw [3, 4] (fun v i wr => ∃ k : Nat, k ≤ 256 ∧ i = .int .i64 k ∧ Row wr w.heap.size f ∧ wr.ownsRow (w.heap.size + 1) 5 1 v (U f k).length ((nums (U f k)).map (Value.int .u8)) ∧ Below w.heap.size w wr) (fun _ i _ => 256 - (RowKit.intOf i).toNat)
 case atStart =>
  refine ⟨0, by omega, rfl, (Row.new w f).alloc _, ⟨rfl, .inr ⟨_, 0, #[], rfl, Nat.le_refl _, ?_, Nat.le_refl _, by unfold maxLen; omega, rfl, rfl⟩⟩, ((Below.refl _ w).alloc (Nat.le_refl _) _).alloc (by simp) _⟩
  show ((w.heap.push (Obj.cells (barr f) 28)).push (Obj.cells #[] 5))[w.heap.size + 1]? = _
  rw [show w.heap.size + 1 = (w.heap.push (Obj.cells (barr f) 28)).size from (Array.size_push _).symm]
  exact Array.getElem?_push_size
 case round =>
  obtain ⟨k, hk, rfl, h0, hown, hB⟩ := hrel
  by_cases hlt : k < 256
  ·have hc := h0.cell k hlt
   have hlen := U_length f k hk
   have hcnt := cnt_le f k
   cases hfk : f k
   ·rw [hfk] at hc
    have hU := U_miss hfk
    go_wp2
    go_roundw
    case rel =>
     refine ⟨k + 1, by omega, by simp, h0, ?_, hB⟩
     rw [hU]; exact hown
    case measure => (simp [RowKit.intOf]) <;> omega
   ·rw [hfk] at hc
    have hU := U_hit hlt hfk
    have hsz1 := h0.lt
    have hsz0 := hB.size
    go_wp2_with (at_builtin; refine wpList_append_own _ rfl _ _ 80 rfl (w.heap.size + 1) 5 i0 (.int .u8 0) 1 1 Tryz.underlying80 hi hz0 hz1 hz2 rfl (by decide) _ _ _ rfl (hown.alloc _) ⟨wr.heap.size, 0, none⟩ 1 1 [.int .u8 k] rfl rfl (cell_one_new _ _ _) (by simp [Value.oneCell']) (by unfold maxLen; omega) (by omega) (by simp; omega) ?_; intro v' w3 hown' hgrow' _)
    go_roundw
    case rel =>
     refine ⟨k + 1, by omega, by simp, (h0.alloc _).kept hgrow' (own_ne hown (by omega)), ?_, (hB.alloc (by omega) _).grown hgrow' (by simp; omega) fun n hn => Nat.le_trans (by omega) (own_ge hown hn)⟩
     rw [hU]
     simpa [nums] using hown'
    case measure => (simp [RowKit.intOf]) <;> omega
  ·obtain rfl : k = 256 := by omega
   have hcv := convert_own hown
   go_wp2
   go_ret
   exact ⟨rfl, hB⟩
end Go.Proofs.YtdjcgjkbecncaaaGreatDoor
namespace Go.Proofs.YtdjcgjkbecncaaaGreatDoor
open Go.RowKit Go.Lib
theorem idx_dig (q : Nat) (hq : q < 16) (w : World) : (Instr.index 9 (.string ⟨#[48, 49, 50, 51, 52, 53, 54, 55, 56, 57, 97, 98, 99, 100, 101, 102]⟩) (.int .u8 (q : Int))).run Tryz.prog w = .ok (.int .u8 ((dig q).toNat : Int)) w := by
 rcases (by omega : q = 0 ∨ q = 1 ∨ q = 2 ∨ q = 3 ∨ q = 4 ∨ q = 5 ∨ q = 6 ∨ q = 7 ∨ q = 8 ∨ q = 9 ∨ q = 10 ∨ q = 11 ∨ q = 12 ∨ q = 13 ∨ q = 14 ∨ q = 15) with rfl | rfl | rfl | rfl | rfl | rfl | rfl | rfl | rfl | rfl | rfl | rfl | rfl | rfl | rfl | rfl <;> kernel_rfl
def hexn (s : ByteArray) (k : Nat) : List Int := (hexl (s.data.toList.take k)).map fun c => (c.toNat : Int)
theorem hexl_len (l : List UInt8) : (hexl l).length = 2 * l.length := by
 induction l with
 | nil => rfl
 | cons a l ih => simp only [hexl, List.flatMap_cons, List.length_append, List.length_cons, List.length_nil] at *; omega
theorem hexn_len (s : ByteArray) (k : Nat) (h : k ≤ s.size) : (hexn s k).length = 2 * k := by
 simp only [hexn, List.length_map, hexl_len, List.length_take]
 have : s.data.toList.length = s.size := by simp
 omega
theorem hexn_succ (s : ByteArray) (k : Nat) (h : k < s.size) : hexn s (k + 1) = hexn s k ++ [((dig (s[k].toNat / 16)).toNat : Int), ((dig (s[k].toNat % 16)).toNat : Int)] := by
 have h' : k < s.data.toList.length := by simpa using h
 have e : s[k] = s.data.toList[k] := rfl
 simp only [hexn]
 rw [List.take_succ_eq_append_getElem h']
 simp [hexl, e]
theorem run_index_op {P : Program} {o : Oper} {ev : Operand → Value} {x i : Operand} {t : TypeId} {xv iv v : Value} {w : World} (h : (Instr.index t xv iv).run P w = .ok v w) (ho : o.op = .index t x i) (hx : ev x = xv) (hi : ev i = iv) :
  (execOp ev o).run P w = .ok (.value v) w := by
 unfold execOp
 simp only [ho, hx, hi, h, Sem.run_bind, Sem.run_pure, Result.andThen_ok]
theorem hexof_c (s : ByteArray) (hs : s.size ≤ 1000) (w : World) :
  Calls Tryz.prog 83 #[.string s] w fun e w' => e = .returned (.string (strOfNums (hexn s s.size))) ∧ Below w.heap.size w w' := by
 obtain ⟨i0, hi, hz0, hz1, hz2⟩ := info_parts infoU8
 obtain ⟨w1, hr, hown, hgrow⟩ := run_make_own (P := Tryz.prog) w w.heap.size 80 5 i0 (.int .u8 0) 1 Tryz.underlying80 hi hz0 hz1 .i64 .i64 (2 * s.size) (by rw [hz2]; omega) (by unfold maxLen; omega) (Nat.le_refl _)
 rw [show ((2 * s.size : Nat) : Int) = 2 * (s.size : Int) by omega] at hr
 have hB0 : Below w.heap.size w w1 := (Below.refl _ w).grown hgrow (Nat.le_refl _) (fun k e => by cases e)
 go_enter Tryz.func83, Tryz.ntmps83
 go_wp2
 clear hr hgrow
 go_loopw [3, 11] (fun v i wr => ∃ (k : Nat) (v' : Value), v = v' ∧ k ≤ s.size ∧ i = .int .i64 k ∧ wr.ownsRow w.heap.size 5 1 v' (2 * k) ((hexn s k).map (Value.int .u8)) ∧ Below w.heap.size w wr) (fun _ i _ => s.size - (RowKit.intOf i).toNat)
 case atStart => exact ⟨0, _, rfl, by omega, rfl, by simpa [hexn, hexl] using hown, hB0⟩
 case round =>
  clear hown hB0
  obtain ⟨k, v, rfl, hk, rfl, hown, hB⟩ := hrel
  by_cases hlt : k < s.size
  ·obtain ⟨c, hc⟩ : ∃ c : Nat, c = s[k].toNat := ⟨_, rfl⟩
   have hc256 : c < 256 := by rw [hc]; exact s[k].toNat_lt
   have hx : ∀ w, (Instr.index 9 (.string s) (.int .i64 (k : Int))).run Tryz.prog w = .ok (.int .u8 (c : Int)) w := fun w => by
    rw [run_index_string (P := Tryz.prog) w 9 s .i64 (k : Int) Tryz.underlying9, dif_pos ⟨by omega, by omega⟩]
    simp [hc]
   obtain ⟨q, hq⟩ : ∃ q : Nat, q = c / 16 := ⟨_, rfl⟩
   obtain ⟨m, hm⟩ : ∃ m : Nat, m = c % 16 := ⟨_, rfl⟩
   have h1 : IntKind.u8.wrap ((c : Int) / 16) = (q : Int) := by simp [IntKind.wrap, IntKind.signed, IntKind.bits]; omega
   have h2 : (c : Int).tmod 16 = (m : Int) := by rw [Int.tmod_eq_emod_of_nonneg (by omega)]; omega
   have i1 := idx_dig q (by omega)
   have i2 := idx_dig m (by omega)
   have hs1 := hexn_succ s k hlt
   rw [← hc, ← hq, ← hm] at hs1
   obtain ⟨d1, hd1⟩ : ∃ d : Int, d = ((dig q).toNat : Int) := ⟨_, rfl⟩
   obtain ⟨d2, hd2⟩ : ∃ d : Int, d = ((dig m).toNat : Int) := ⟨_, rfl⟩
   rw [← hd1] at i1 hs1
   rw [← hd2] at i2 hs1
   have HS1 := Lib.hid hs1
   clear hs1 hd1 hd2 hq hm hc
   go_wp2_with fail
   refine wp_region_noPanic ?_
   refine wp_region_held_drew (S := fun w' => Below w.heap.size w w') (by kernel_rfl) ?_ (fun hHeld => ?_)
   ·(try dsimp only); exact hB.drew
   refine wpAnyH_take (i := 0) (v := ?_) rfl (by kernel_rfl) (by kernel_rfl) (by kernel_rfl) (fun _ _ _ h => h) (Or.inl ⟨by kernel_rfl, ?_⟩) (by assumption) ?_
   rotate_left
   ·(intro w hSw; (try dsimp only at hSw); go_simp); (try with_reducible rfl)
   try simp only [Act.put, laS]
   refine wpAnyH_take (i := 1) (v := ?_) rfl (by kernel_rfl) (by kernel_rfl) (by kernel_rfl) (fun _ _ _ h => h) (Or.inl ⟨by kernel_rfl, ?_⟩) (by assumption) ?_
   rotate_left
   ·(intro w hSw; (try dsimp only at hSw); go_simp); (try with_reducible rfl)
   try simp only [Act.put, laS]
   refine wpAnyH_take (i := 2) (v := ?_) rfl (by kernel_rfl) (by kernel_rfl) (by kernel_rfl) (fun _ _ _ h => h) (Or.inl ⟨by kernel_rfl, ?_⟩) (by assumption) ?_
   rotate_left
   ·(intro w hSw; (try dsimp only at hSw); go_simp); (try with_reducible rfl)
   try simp only [Act.put, laS]
   refine wpAnyH_take (i := 3) (v := (.int .u8 (c : Int))) rfl (by kernel_rfl) (by kernel_rfl) (by kernel_rfl) (fun _ _ _ h => h) (Or.inl ⟨by kernel_rfl, fun w _ => run_index_op (hx w) rfl rfl rfl⟩) (by assumption) ?_
   try simp only [Act.put, laS]
   refine wpAnyH_take (i := 4) (v := (.int .u8 (q : Int))) rfl (by kernel_rfl) (by kernel_rfl) (by kernel_rfl) (fun _ _ _ h => h) (Or.inl ⟨by kernel_rfl, fun w _ => by go_simp⟩) (by assumption) ?_
   try simp only [Act.put, laS]
   refine wpAnyH_take (i := 5) (v := (.int .u8 d1)) rfl (by kernel_rfl) (by kernel_rfl) (by kernel_rfl) (fun _ _ _ h => h) (Or.inl ⟨by kernel_rfl, fun w _ => run_index_op (i1 w) rfl rfl rfl⟩) (by assumption) ?_
   try simp only [Act.put, laS]
   refine wpAnyH_take (i := 6) (v := ?_) rfl (by kernel_rfl) (by kernel_rfl) (by kernel_rfl) (fun _ _ _ h => h) (Or.inl ⟨by kernel_rfl, ?_⟩) (by assumption) ?_
   rotate_left
   ·(intro w hSw; (try dsimp only at hSw); go_simp); (try with_reducible rfl)
   try simp only [Act.put, laS]
   refine wpAnyH_take (i := 7) (v := ?_) rfl (by kernel_rfl) (by kernel_rfl) (by kernel_rfl) (fun _ _ _ h => h) (Or.inl ⟨by kernel_rfl, ?_⟩) (by assumption) ?_
   rotate_left
   ·(intro w hSw; (try dsimp only at hSw); go_simp); (try with_reducible rfl)
   try simp only [Act.put, laS]
   refine wpAnyH_take (i := 8) (v := (.int .u8 (c : Int))) rfl (by kernel_rfl) (by kernel_rfl) (by kernel_rfl) (fun _ _ _ h => h) (Or.inl ⟨by kernel_rfl, fun w _ => run_index_op (hx w) rfl rfl rfl⟩) (by assumption) ?_
   try simp only [Act.put, laS]
   refine wpAnyH_take (i := 9) (v := (.int .u8 (m : Int))) rfl (by kernel_rfl) (by kernel_rfl) (by kernel_rfl) (fun _ _ _ h => h) (Or.inl ⟨by kernel_rfl, fun w _ => by go_simp⟩) (by assumption) ?_
   try simp only [Act.put, laS]
   refine wpAnyH_take (i := 10) (v := (.int .u8 d2)) rfl (by kernel_rfl) (by kernel_rfl) (by kernel_rfl) (fun _ _ _ h => h) (Or.inl ⟨by kernel_rfl, fun w _ => run_index_op (i2 w) rfl rfl rfl⟩) (by assumption) ?_
   try simp only [Act.put, laS]
   refine wpAnyH_ready (rs := [11]) (by kernel_rfl) (by simp) ?_
   refine AllReadyH.cons rfl (fun K hK => ?_) AllReadyH.nil
   have hbs := hB.size
   go_simp
   refine hK.out _ _ ?_ (fun hHeld => ?_)
   ·exact (hB.alloc hbs _).drew
   clear hK K
   try simp only [Act.put, laS]
   refine wpAnyH_ready (rs := [12]) (by kernel_rfl) (by simp) ?_
   refine AllReadyH.cons rfl (fun K hK => ?_) AllReadyH.nil
   rw [if_pos (by kernel_rfl)]
   have hownA := (hown.alloc (.cells #[.int .u8 d1, .int .u8 d2] 5))
   have hsz : (((wr.alloc (.cells #[.int .u8 d1, .int .u8 d2] 5)).drew)).heap.size = wr.heap.size + 1 := World.size_alloc _ _
   have hcells : ∀ j u, ([.int .u8 d1, .int .u8 d2] : List Value)[j]? = some u → (((wr.alloc (.cells #[.int .u8 d1, .int .u8 d2] 5)).drew)).cell? ((⟨wr.heap.size, 0, none⟩ : Addr).add j) = some u := fun j u hj => by
    have hh : ((wr.alloc (.cells #[.int .u8 d1, .int .u8 d2] 5)).drew).heap[wr.heap.size]? = some (.cells #[.int .u8 d1, .int .u8 d2] 5 (0, 0)) := heap_new wr _
    rw [Addr.add_lit]
    rw [Nat.zero_add, cell_of _ _ _ _ hh]
    simpa using hj
   refine wp_append_lies (P := Tryz.prog) _ _ _ 80 rfl w.heap.size 5 i0 (.int .u8 0) 1 1 Tryz.underlying80 hi hz0 hz1 hz2 rfl (by decide) _ (2 * k) _ rfl hownA ⟨wr.heap.size, 0, none⟩ 2 2 [.int .u8 d1, .int .u8 d2] rfl rfl hcells (by simp [Value.oneCell']) (by decide) (by unfold maxLen; omega) (by omega) (by rw [hsz]; omega) _ rfl ?_
   intro g cap w3 hown3 hgrow3 hat3 hlt3
   have hB3 : Below w.heap.size w w3 := ((hB.alloc hbs (.cells #[.int .u8 d1, .int .u8 d2] 5)).drew).grown hgrow3 (by rw [hsz]; omega) fun n hn => own_ge hown hn
   refine hK.out _ _ hB3 (fun hHeld => ?_)
   clear hK K
   try simp only [Act.put, laS]
   refine wpAnyH_take (i := 13) (v := ?_) rfl (by kernel_rfl) (by kernel_rfl) (by kernel_rfl) (fun _ _ _ h => h) (Or.inl ⟨by kernel_rfl, ?_⟩) (by assumption) ?_
   rotate_left
   ·(intro w hSw; (try dsimp only at hSw); go_simp); (try with_reducible rfl)
   try simp only [Act.put, laS]
   refine wpAnyH_done (by kernel_rfl) ?_ _
   refine NoPanic.normal ?_
   go_wp2
   go_roundw
   case rel => exact ⟨k + 1, _, rfl, by omega, by simp, by rw [HS1.out, List.map_append]; exact hown3, hB3⟩
   case measure => (simp [RowKit.intOf]) <;> omega
  ·obtain rfl : k = s.size := by omega
   have hcv := convert_own hown
   go_wp2
   go_ret
   exact ⟨rfl, hB⟩
end Go.Proofs.YtdjcgjkbecncaaaGreatDoor
