/- The reference's arrays of 256 bools. -/
import Derived.Test.YtkmfncajdkdenaaGreatDoorYSetQ
import Derived.Deep.WholeRow
import Derived.Test.YtkmfncajdkdenaaGreatDoorYSetE
import Derived.OwnWalk
import Derived.Test.YtkmfncajdkdenaaGreatDoorYRxU
import Derived.Test.YtkmfncajdkdenaaGreatDoorYShelf
import Derived.Lib.AppendIntMem
import Derived.Lib.ItoaLen
import Derived.Deep.AppendLies
import Derived.Test.YtkmfncajdkdenaaGreatDoorYRxTd
import Derived.Lib.SmallJoins
import Derived.Lib.AtoiAllCases
import Derived.Lib.IndexMore
import Derived.Lib.IndexBytes
import Derived.Lib.FrozenHead2
import Derived.Lib.OthersKept
import Derived.BigQuiet
import Derived.Deep.RegionHeld3
import Derived.Laws.EntriesVeiled
set_option linter.unusedVariables false
set_option linter.unusedSimpArgs false
set_option maxRecDepth 100000
set_option maxHeartbeats 40000000
namespace Go.Proofs.YtkmfncajdkdenaaGreatDoor
open Go.RowKit
def barr (f : Nat → Bool) : Array Value := ((List.range 256).map fun i => Value.bool (f i)).toArray
def bv (f : Nat → Bool) : Value := .agg (barr f)
theorem barr_size (f : Nat → Bool) : (barr f).size = 256 := by simp [barr]
theorem barr_congr {f g : Nat → Bool} (h : ∀ i, i < 256 → f i = g i) : barr f = barr g := by
 unfold barr
 congr 1
 apply List.map_congr_left
 intro i hi
 rw [h i (by simpa using hi)]
theorem barr_at (f : Nat → Bool) (j : Nat) (h : j < 256) : (barr f)[j]? = some (.bool (f j)) := by simp [barr, h]
theorem barr_set (f : Nat → Bool) (j : Nat) (v : Bool) : (barr f).setIfInBounds j (.bool v) = barr (fun i => if i = j then v else f i) := by
 apply Array.ext_getElem?
 intro i
 rw [Array.getElem?_setIfInBounds]
 by_cases hi : i < 256
 ·rw [barr_at _ i hi, barr_at _ i hi, barr_size]
  by_cases e : j = i
  ·subst e; simp [hi]
  ·have e' : ¬ i = j := fun h => e h.symm
   simp [e, e']
 ·have h1 : (barr f)[i]? = none := Array.getElem?_eq_none (by rw [barr_size]; omega)
  have h2 : (barr fun k => if k = j then v else f k)[i]? = none := Array.getElem?_eq_none (by rw [barr_size]; omega)
  rw [h1, h2, barr_size]
  split <;> first | rfl | (split <;> first | rfl | omega)
theorem barr_all (f : Nat → Bool) : (barr f).all (·.oneCell') = true := by
 simp [barr, Value.oneCell']
theorem info27 : (Tryz.prog.info? 30).map (fun i => (i.zero, i.size)) = some (some (.agg (barr fun _ => false)), 256) := by kernel_rfl
structure Row (W : World) (b : Nat) (f : Nat → Bool) : Prop where
 heap : W.heap[b]? = some (.cells (barr f) 30 (0, 0))
section
variable {W : World} {b : Nat} {f : Nat → Bool}
theorem Row.lt (h : Row W b f) : b < W.heap.size := (Array.getElem?_eq_some_iff.1 h.heap).1
theorem Row.cell (h : Row W b f) (j : Nat) (hj : j < 256) : W.cell? ⟨b, j, none⟩ = some (.bool (f j)) := by simp [World.cell?, h.heap, barr_at f j hj]
theorem Row.fz (h : Row W b f) (j : Nat) : W.frozen? ⟨b, j, none⟩ = false := by simp [World.frozen?, h.heap]
theorem Row.below {B : Nat} {W' : World} (h : Row W b f) (hB : Below B W W') (hb : b < B) : Row W' b f := ⟨(hB.block b hb).trans h.heap⟩
theorem Row.alloc (h : Row W b f) (o : Obj) : Row (W.alloc o) b f := h.below (B := W.heap.size) ((Below.refl _ W).alloc (Nat.le_refl _) o) h.lt
theorem Row.set (h : Row W b f) (j : Nat) (v : Bool) : Row (W.setCell ⟨b, j, none⟩ (.bool v)) b (fun i => if i = j then v else f i) := ⟨by rw [heap_setCell_same _ b j _ _ _ h.heap, barr_set]⟩
theorem Row.other (h : Row W b f) {p : Addr} (hp : b ≠ p.block) (u : Value) : Row (W.setCell p u) b f := ⟨(Below.heap_setCell W p u b hp).trans h.heap⟩
theorem Row.new (W : World) (f : Nat → Bool) : Row (W.alloc (.cells (barr f) 30)) W.heap.size f := ⟨by show (W.heap.push _)[W.heap.size]? = _; simp⟩
theorem Row.congr {g : Nat → Bool} (h : Row W b f) (e : ∀ i, i < 256 → f i = g i) : Row W b g := ⟨by rw [← barr_congr e]; exact h.heap⟩
theorem size27 : (Tryz.prog.info? 30).map (·.size) = some 256 := (zero_of_info info27).2
theorem Row.load (h : Row W b f) : (loadVar 30 ⟨b, 0, none⟩).run Tryz.prog W = .ok (.agg (barr f)) W :=
 run_loadVar_row W b 30 30 (barr f) (0, 0) _ h.heap Tryz.underlying30 rfl (by rw [size27, barr_size])
theorem Row.loadAt (h : Row W b f) : (Instr.loadAt 30 (.pointer (some ⟨b, 0, none⟩))).run Tryz.prog W = .ok (.agg (barr f)) W := by
 simp only [Instr.loadAt, Instr.sureAddr, Sem.run_bind, Sem.run_pure, Result.andThen]
 exact h.load
theorem Row.store (h : Row W b f) (g : Nat → Bool) : (storeVar 30 ⟨b, 0, none⟩ (.agg (barr g))).run Tryz.prog W = .ok () (W.setRow b (barr g)) :=
 run_storeVar_row W b 30 30 (barr f) (barr g) h.heap (by rw [size27, barr_size]) (by rw [barr_size, barr_size]) (barr_all g)
theorem Row.storeAt (h : Row W b f) (g : Nat → Bool) : (Instr.storeAt 30 (.pointer (some ⟨b, 0, none⟩)) (.agg (barr g))).run Tryz.prog W = .ok () (W.setRow b (barr g)) := by
 simp only [Instr.storeAt, Instr.sureAddr, Sem.run_bind, Sem.run_pure, Result.andThen]
 exact h.store g
theorem Row.storeCells (h : Row W b f) (g : Nat → Bool) : (storeCells ⟨b, 0, none⟩ (barr g).toList).run Tryz.prog W = .ok () (W.setRow b (barr g)) := by
 have := h.store g
 have hs := size27
 cases hq : Tryz.prog.info? 30 with
 | none => simp [hq] at hs
 | some i =>
  have h2 : i.size = 256 := by simpa [hq] using hs
  simpa [storeVar, sizeOf, typeInfo, hq, Value.cells, h2, barr_size] using this
theorem Row.put (h : Row W b f) (g : Nat → Bool) : Row (W.setRow b (barr g)) b g := ⟨by
 obtain ⟨hlt, hk⟩ := Array.getElem?_eq_some_iff.1 h.heap
 show (W.heap.modify b _)[b]? = _
 rw [Array.getElem?_eq_getElem (by rw [Array.size_modify]; exact hlt), Array.getElem_modify_self, hk]⟩
theorem Below.setRow {B : Nat} {a w : World} (h : Below B a w) {b : Nat} (hb : B ≤ b) (c : Array Value) : Below B a (w.setRow b c) :=
 h.trans ⟨rfl, rfl, rfl, by simp [World.setRow], fun k hk => by
  show (w.heap.modify b _)[k]? = _
  rw [Array.getElem?_modify, if_neg (by omega)]⟩
theorem Row.setRow_other (h : Row W b f) {b' : Nat} (hb : b ≠ b') (c : Array Value) : Row (W.setRow b' c) b f := ⟨by
 show (W.heap.modify b' _)[b]? = _
 rw [Array.getElem?_modify, if_neg (fun e => hb e.symm)]; exact h.heap⟩
theorem wp_load_row {op : Oper} {a : Act} {K : Act → World → Prop} {Q : Exit → Act → World → Prop} {x : Operand} (h : Row W b f) (ho : op.op = .load 30 x) (hx : a.eval x = .pointer (some ⟨b, 0, none⟩))
  (hK : K (a.put op.dst (.agg (barr f))) W) : op.wp Tryz.prog a W K Q := by
 unfold Oper.wp execOp
 simp only [ho, hx, h.loadAt, Sem.run_bind, Sem.run_pure, Result.andThen_ok]
 exact hK
end
end Go.Proofs.YtkmfncajdkdenaaGreatDoor
namespace Go.Proofs.YtkmfncajdkdenaaGreatDoor
open Go.RowKit
theorem store_fresh (w : World) : (storeCells ⟨w.heap.size + 1, 0, none⟩ (barr fun _ => false).toList).run Tryz.prog ((w.alloc (.cells (barr fun _ => false) 30)).alloc (.cells (barr fun _ => false) 30)) = .ok () ((w.alloc (.cells (barr fun _ => false) 30)).alloc (.cells (barr fun _ => false) 30)) := by
 have := (Row.new (w.alloc (.cells (barr fun _ => false) 30)) (fun _ => false)).storeCells (fun _ => false)
 rw [World.setRow_alloc_new, World.size_alloc] at this
 exact this
def wk (f : Nat → Bool) (m k : Nat) : Nat := wd f m / 2 ^ (min 64 (k - 64 * m))
theorem wk_zero (f : Nat → Bool) (m : Nat) : wk f m 0 = wd f m := by simp [wk]
theorem wk_all (f : Nat → Bool) (m : Nat) (hm : m < 4) : wk f m 256 = 0 := by
 unfold wk
 rw [show min 64 (256 - 64 * m) = 64 by omega]
 exact Nat.div_eq_of_lt (wd_lt f m)
theorem wk_same (f : Nat → Bool) (m i : Nat) (h : m ≠ i / 64) : wk f m (i + 1) = wk f m i := by
 unfold wk
 congr 2
 rcases Nat.lt_or_gt_of_ne h with h1 | h1
 ·have : 64 * m + 64 ≤ i := by omega
  omega
 ·have : i + 1 ≤ 64 * m := by omega
  omega
theorem wk_step (f : Nat → Bool) (i : Nat) : wk f (i / 64) i = 2 * wk f (i / 64) (i + 1) + (f i).toNat := by
 unfold wk
 have e1 : min 64 (i - 64 * (i / 64)) = i % 64 := by omega
 have e2 : min 64 (i + 1 - 64 * (i / 64)) = i % 64 + 1 := by omega
 have hb := wd_has f (i / 64) (i % 64) (by omega)
 rw [show 64 * (i / 64) + i % 64 = i by omega] at hb
 rw [e1, e2, ← hb, Nat.pow_succ, ← Nat.div_div_eq_div_mul]
 omega
theorem wk_lt (f : Nat → Bool) (m k : Nat) : wk f m k < 18446744073709551616 := Nat.lt_of_le_of_lt (Nat.div_le_self _ _) (wd_lt f m)
theorem words_c (f : Nat → Bool) (w : World) :
  Calls Tryz.prog 9 #[bv f] w fun e w' => e = .returned (sv f) ∧ Below w.heap.size w w' := by
 unfold bv sv
 go_enter Tryz.func9, Tryz.ntmps9
 go_wp2
 go_loopw [4] (fun i wr => ∃ k : Nat, k ≤ 256 ∧ i = .int .i64 ((k : Int) - 1) ∧ Row wr w.heap.size f ∧ Four wr (w.heap.size + 1) 24 (.int .u64 0) (.int .u64 0) (.int .u64 0) (.int .u64 0) ∧ Four wr (w.heap.size + 1 + 1) 24 (.int .u64 (wk f 0 k)) (.int .u64 (wk f 1 k)) (.int .u64 (wk f 2 k)) (.int .u64 (wk f 3 k)) ∧ Below w.heap.size w wr) (fun i _ => (RowKit.intOf i + 1).toNat)
 case atStart =>
  refine ⟨256, by omega, rfl, ((Row.new w f).alloc _).alloc _, ?_, ?_, (((Below.refl _ w).alloc (Nat.le_refl _) _).alloc (by simp) _).alloc (by simp; omega) _⟩
  ·have := Four.new (w.alloc (.cells (barr f) 30)) 24 (.int .u64 0) (.int .u64 0) (.int .u64 0) (.int .u64 0)
   rw [World.size_alloc] at this
   exact this.alloc _
  ·rw [wk_all f 0 (by omega), wk_all f 1 (by omega), wk_all f 2 (by omega), wk_all f 3 (by omega)]
   have := Four.new ((w.alloc (.cells (barr f) 30)).alloc (.cells #[.int .u64 0, .int .u64 0, .int .u64 0, .int .u64 0] 24)) 24 (.int .u64 0) (.int .u64 0) (.int .u64 0) (.int .u64 0)
   rw [World.size_alloc, World.size_alloc] at this
   exact this
 case round =>
  obtain ⟨k, hk, rfl, h0, h1, h2, hB⟩ := hrel
  cases k with
  | zero =>
   have e0 := h2.c0; have e1 := h2.c1; have e2 := h2.c2; have e3 := h2.c3
   rw [wk_zero] at e0 e1 e2 e3
   have g0 := h1.c0; have g1 := h1.c1; have g2 := h1.c2; have g3 := h1.c3
   have gf0 := h1.fz 0; have gf1 := h1.fz 1; have gf2 := h1.fz 2; have gf3 := h1.fz 3
   go_wp2
   have q := h1.set (.int .u64 (wd f 0)) (.int .u64 (wd f 1)) (.int .u64 (wd f 2)) (.int .u64 (wd f 3))
   have qc0 := q.c0; have qc1 := q.c1; have qc2 := q.c2; have qc3 := q.c3
   refine bodyPost_ret (v := .agg #[.int .u64 (wd f 0), .int .u64 (wd f 1), .int .u64 (wd f 2), .int .u64 (wd f 3)]) (by simp [results, Tryz.results9, go_sem, qc0, qc1, qc2, qc3]) rfl ⟨rfl, Below.set4 hB (by omega) _ _ _ _⟩
  | succ i =>
   have hi : i < 256 := by omega
   have hki : ((i + 1 : Nat) : Int) - 1 = (i : Int) := by omega
   have hc := h0.cell i hi
   have hst := wk_step f i
   simp only [hki]
   rcases (by omega : i / 64 = 0 ∨ i / 64 = 1 ∨ i / 64 = 2 ∨ i / 64 = 3) with hd | hd | hd | hd
   ·rw [hd] at hst
    have hb := wk_lt f 0 i
    have hi64 : (i : Int) / 64 = 0 := by omega
    have e := h2.c0
    have ef := h2.fz 0
    obtain ⟨y, hy⟩ : ∃ y, y = 2 * wk f 0 (i + 1) := ⟨_, rfl⟩
    rw [← hy] at hst
    have hm : IntKind.u64.wrap ((wk f 0 (i + 1) : Int) * 2) = (y : Int) := u64_wrap _ (by omega) _ (by omega)
    have hs1 := Lib.hid (wk_same f 1 i (by omega))
    have hs2 := Lib.hid (wk_same f 2 i (by omega))
    have hs3 := Lib.hid (wk_same f 3 i (by omega))
    have HS := Lib.hid hst
    cases hv : f i
    ·rw [hv] at hc hst
     have hfin : y = wk f 0 i := by rw [hst]; simp
     have HF := Lib.hid hfin
     clear hst hfin hd hy  hv
     go_wp2
     go_roundw
     case rel =>
      have q := h2.s0 (.int .u64 (y : Int))
      rw [HF.out, hs1.out, hs2.out, hs3.out] at q
      exact ⟨i, by omega, by simp, h0.other (p := ⟨w.heap.size + 1 + 1, 0, none⟩) (by show w.heap.size ≠ w.heap.size + 1 + 1; omega) _, h1.other (p := ⟨w.heap.size + 1 + 1, 0, none⟩) (by show w.heap.size + 1 ≠ w.heap.size + 1 + 1; omega) _, by (first | exact q | (rw [HF.out]; exact q) | (have q' := q; rw [← HF.out] at q'; exact q')), hB.setCell (p := ⟨w.heap.size + 1 + 1, 0, none⟩) (by show w.heap.size ≤ w.heap.size + 1 + 1; omega) _⟩
     case measure => (simp [RowKit.intOf]) <;> omega
    ·rw [hv] at hc hst
     have hfin : y + 1 = wk f 0 i := by rw [hst]; simp
     have ha : IntKind.u64.wrap ((y : Int) + 1) = (wk f 0 i : Int) := u64_wrap _ hb _ (by omega)
     clear hst hfin hd hy  hv
     go_wp2
     go_roundw
     case rel =>
      have q := (h2.s0 (.int .u64 (y : Int))).s0 (.int .u64 (wk f 0 i))
      rw [hs1.out, hs2.out, hs3.out] at q
      exact ⟨i, by omega, by simp, (h0.other (p := ⟨w.heap.size + 1 + 1, 0, none⟩) (by show w.heap.size ≠ w.heap.size + 1 + 1; omega) _).other (p := ⟨w.heap.size + 1 + 1, 0, none⟩) (by show w.heap.size ≠ w.heap.size + 1 + 1; omega) _, (h1.other (p := ⟨w.heap.size + 1 + 1, 0, none⟩) (by show w.heap.size + 1 ≠ w.heap.size + 1 + 1; omega) _).other (p := ⟨w.heap.size + 1 + 1, 0, none⟩) (by show w.heap.size + 1 ≠ w.heap.size + 1 + 1; omega) _, q, (hB.setCell (p := ⟨w.heap.size + 1 + 1, 0, none⟩) (by show w.heap.size ≤ w.heap.size + 1 + 1; omega) _).setCell (p := ⟨w.heap.size + 1 + 1, 0, none⟩) (by show w.heap.size ≤ w.heap.size + 1 + 1; omega) _⟩
     case measure => (simp [RowKit.intOf]) <;> omega
   ·rw [hd] at hst
    have hb := wk_lt f 1 i
    have hi64 : (i : Int) / 64 = 1 := by omega
    have e := h2.c1
    have ef := h2.fz 1
    obtain ⟨y, hy⟩ : ∃ y, y = 2 * wk f 1 (i + 1) := ⟨_, rfl⟩
    rw [← hy] at hst
    have hm : IntKind.u64.wrap ((wk f 1 (i + 1) : Int) * 2) = (y : Int) := u64_wrap _ (by omega) _ (by omega)
    have hs0 := Lib.hid (wk_same f 0 i (by omega))
    have hs2 := Lib.hid (wk_same f 2 i (by omega))
    have hs3 := Lib.hid (wk_same f 3 i (by omega))
    have HS := Lib.hid hst
    cases hv : f i
    ·rw [hv] at hc hst
     have hfin : y = wk f 1 i := by rw [hst]; simp
     have HF := Lib.hid hfin
     clear hst hfin hd hy  hv
     go_wp2
     go_roundw
     case rel =>
      have q := h2.s1 (.int .u64 (y : Int))
      rw [HF.out, hs0.out, hs2.out, hs3.out] at q
      exact ⟨i, by omega, by simp, h0.other (p := ⟨w.heap.size + 1 + 1, 1, none⟩) (by show w.heap.size ≠ w.heap.size + 1 + 1; omega) _, h1.other (p := ⟨w.heap.size + 1 + 1, 1, none⟩) (by show w.heap.size + 1 ≠ w.heap.size + 1 + 1; omega) _, by (first | exact q | (rw [HF.out]; exact q) | (have q' := q; rw [← HF.out] at q'; exact q')), hB.setCell (p := ⟨w.heap.size + 1 + 1, 1, none⟩) (by show w.heap.size ≤ w.heap.size + 1 + 1; omega) _⟩
     case measure => (simp [RowKit.intOf]) <;> omega
    ·rw [hv] at hc hst
     have hfin : y + 1 = wk f 1 i := by rw [hst]; simp
     have ha : IntKind.u64.wrap ((y : Int) + 1) = (wk f 1 i : Int) := u64_wrap _ hb _ (by omega)
     clear hst hfin hd hy  hv
     go_wp2
     go_roundw
     case rel =>
      have q := (h2.s1 (.int .u64 (y : Int))).s1 (.int .u64 (wk f 1 i))
      rw [hs0.out, hs2.out, hs3.out] at q
      exact ⟨i, by omega, by simp, (h0.other (p := ⟨w.heap.size + 1 + 1, 1, none⟩) (by show w.heap.size ≠ w.heap.size + 1 + 1; omega) _).other (p := ⟨w.heap.size + 1 + 1, 1, none⟩) (by show w.heap.size ≠ w.heap.size + 1 + 1; omega) _, (h1.other (p := ⟨w.heap.size + 1 + 1, 1, none⟩) (by show w.heap.size + 1 ≠ w.heap.size + 1 + 1; omega) _).other (p := ⟨w.heap.size + 1 + 1, 1, none⟩) (by show w.heap.size + 1 ≠ w.heap.size + 1 + 1; omega) _, q, (hB.setCell (p := ⟨w.heap.size + 1 + 1, 1, none⟩) (by show w.heap.size ≤ w.heap.size + 1 + 1; omega) _).setCell (p := ⟨w.heap.size + 1 + 1, 1, none⟩) (by show w.heap.size ≤ w.heap.size + 1 + 1; omega) _⟩
     case measure => (simp [RowKit.intOf]) <;> omega
   ·rw [hd] at hst
    have hb := wk_lt f 2 i
    have hi64 : (i : Int) / 64 = 2 := by omega
    have e := h2.c2
    have ef := h2.fz 2
    obtain ⟨y, hy⟩ : ∃ y, y = 2 * wk f 2 (i + 1) := ⟨_, rfl⟩
    rw [← hy] at hst
    have hm : IntKind.u64.wrap ((wk f 2 (i + 1) : Int) * 2) = (y : Int) := u64_wrap _ (by omega) _ (by omega)
    have hs0 := Lib.hid (wk_same f 0 i (by omega))
    have hs1 := Lib.hid (wk_same f 1 i (by omega))
    have hs3 := Lib.hid (wk_same f 3 i (by omega))
    have HS := Lib.hid hst
    cases hv : f i
    ·rw [hv] at hc hst
     have hfin : y = wk f 2 i := by rw [hst]; simp
     have HF := Lib.hid hfin
     clear hst hfin hd hy  hv
     go_wp2
     go_roundw
     case rel =>
      have q := h2.s2 (.int .u64 (y : Int))
      rw [HF.out, hs0.out, hs1.out, hs3.out] at q
      exact ⟨i, by omega, by simp, h0.other (p := ⟨w.heap.size + 1 + 1, 2, none⟩) (by show w.heap.size ≠ w.heap.size + 1 + 1; omega) _, h1.other (p := ⟨w.heap.size + 1 + 1, 2, none⟩) (by show w.heap.size + 1 ≠ w.heap.size + 1 + 1; omega) _, by (first | exact q | (rw [HF.out]; exact q) | (have q' := q; rw [← HF.out] at q'; exact q')), hB.setCell (p := ⟨w.heap.size + 1 + 1, 2, none⟩) (by show w.heap.size ≤ w.heap.size + 1 + 1; omega) _⟩
     case measure => (simp [RowKit.intOf]) <;> omega
    ·rw [hv] at hc hst
     have hfin : y + 1 = wk f 2 i := by rw [hst]; simp
     have ha : IntKind.u64.wrap ((y : Int) + 1) = (wk f 2 i : Int) := u64_wrap _ hb _ (by omega)
     clear hst hfin hd hy  hv
     go_wp2
     go_roundw
     case rel =>
      have q := (h2.s2 (.int .u64 (y : Int))).s2 (.int .u64 (wk f 2 i))
      rw [hs0.out, hs1.out, hs3.out] at q
      exact ⟨i, by omega, by simp, (h0.other (p := ⟨w.heap.size + 1 + 1, 2, none⟩) (by show w.heap.size ≠ w.heap.size + 1 + 1; omega) _).other (p := ⟨w.heap.size + 1 + 1, 2, none⟩) (by show w.heap.size ≠ w.heap.size + 1 + 1; omega) _, (h1.other (p := ⟨w.heap.size + 1 + 1, 2, none⟩) (by show w.heap.size + 1 ≠ w.heap.size + 1 + 1; omega) _).other (p := ⟨w.heap.size + 1 + 1, 2, none⟩) (by show w.heap.size + 1 ≠ w.heap.size + 1 + 1; omega) _, q, (hB.setCell (p := ⟨w.heap.size + 1 + 1, 2, none⟩) (by show w.heap.size ≤ w.heap.size + 1 + 1; omega) _).setCell (p := ⟨w.heap.size + 1 + 1, 2, none⟩) (by show w.heap.size ≤ w.heap.size + 1 + 1; omega) _⟩
     case measure => (simp [RowKit.intOf]) <;> omega
   ·rw [hd] at hst
    have hb := wk_lt f 3 i
    have hi64 : (i : Int) / 64 = 3 := by omega
    have e := h2.c3
    have ef := h2.fz 3
    obtain ⟨y, hy⟩ : ∃ y, y = 2 * wk f 3 (i + 1) := ⟨_, rfl⟩
    rw [← hy] at hst
    have hm : IntKind.u64.wrap ((wk f 3 (i + 1) : Int) * 2) = (y : Int) := u64_wrap _ (by omega) _ (by omega)
    have hs0 := Lib.hid (wk_same f 0 i (by omega))
    have hs1 := Lib.hid (wk_same f 1 i (by omega))
    have hs2 := Lib.hid (wk_same f 2 i (by omega))
    have HS := Lib.hid hst
    cases hv : f i
    ·rw [hv] at hc hst
     have hfin : y = wk f 3 i := by rw [hst]; simp
     have HF := Lib.hid hfin
     clear hst hfin hd hy  hv
     go_wp2
     go_roundw
     case rel =>
      have q := h2.s3 (.int .u64 (y : Int))
      rw [HF.out, hs0.out, hs1.out, hs2.out] at q
      exact ⟨i, by omega, by simp, h0.other (p := ⟨w.heap.size + 1 + 1, 3, none⟩) (by show w.heap.size ≠ w.heap.size + 1 + 1; omega) _, h1.other (p := ⟨w.heap.size + 1 + 1, 3, none⟩) (by show w.heap.size + 1 ≠ w.heap.size + 1 + 1; omega) _, by (first | exact q | (rw [HF.out]; exact q) | (have q' := q; rw [← HF.out] at q'; exact q')), hB.setCell (p := ⟨w.heap.size + 1 + 1, 3, none⟩) (by show w.heap.size ≤ w.heap.size + 1 + 1; omega) _⟩
     case measure => (simp [RowKit.intOf]) <;> omega
    ·rw [hv] at hc hst
     have hfin : y + 1 = wk f 3 i := by rw [hst]; simp
     have ha : IntKind.u64.wrap ((y : Int) + 1) = (wk f 3 i : Int) := u64_wrap _ hb _ (by omega)
     clear hst hfin hd hy  hv
     go_wp2
     go_roundw
     case rel =>
      have q := (h2.s3 (.int .u64 (y : Int))).s3 (.int .u64 (wk f 3 i))
      rw [hs0.out, hs1.out, hs2.out] at q
      exact ⟨i, by omega, by simp, (h0.other (p := ⟨w.heap.size + 1 + 1, 3, none⟩) (by show w.heap.size ≠ w.heap.size + 1 + 1; omega) _).other (p := ⟨w.heap.size + 1 + 1, 3, none⟩) (by show w.heap.size ≠ w.heap.size + 1 + 1; omega) _, (h1.other (p := ⟨w.heap.size + 1 + 1, 3, none⟩) (by show w.heap.size + 1 ≠ w.heap.size + 1 + 1; omega) _).other (p := ⟨w.heap.size + 1 + 1, 3, none⟩) (by show w.heap.size + 1 ≠ w.heap.size + 1 + 1; omega) _, q, (hB.setCell (p := ⟨w.heap.size + 1 + 1, 3, none⟩) (by show w.heap.size ≤ w.heap.size + 1 + 1; omega) _).setCell (p := ⟨w.heap.size + 1 + 1, 3, none⟩) (by show w.heap.size ≤ w.heap.size + 1 + 1; omega) _⟩
     case measure => (simp [RowKit.intOf]) <;> omega
end Go.Proofs.YtkmfncajdkdenaaGreatDoor
namespace Go.Proofs.YtkmfncajdkdenaaGreatDoor
open Go.RowKit
def part (f : Nat → Bool) (k j : Nat) : Bool := if (65 ≤ j ∧ j < k) ∨ (97 ≤ j ∧ j < k + 32) then foldF f j else f j
end Go.Proofs.YtkmfncajdkdenaaGreatDoor
namespace Go.Proofs.YtkmfncajdkdenaaGreatDoor
open Go.RowKit
theorem Row.kept {A B : World} {row : Option Nat} {b : Nat} {f : Nat → Bool} (h : Row A b f) (hg : A.grownBy B row) (hr : row ≠ some b) : Row B b f := ⟨(hg.block b h.lt (fun e => hr e.symm)).trans h.heap⟩
theorem own_ne {W : World} {base k n : Nat} {v : Value} {xs : List Value} (h : W.ownsRow base 5 1 v k xs) (hn : n < base) : v.ownBlock ≠ some n := by
 rcases h.2 with ⟨rfl, _⟩ | ⟨g, cap, cur, rfl, hb, _⟩
 ·simp [Value.ownBlock]
 ·intro e
  have : g = n := by simpa [Value.ownBlock] using e
  omega
theorem own_ge {W : World} {base k n : Nat} {v : Value} {xs : List Value} (h : W.ownsRow base 5 1 v k xs) (hn : v.ownBlock = some n) : base ≤ n := by
 rcases h.2 with ⟨rfl, _⟩ | ⟨g, cap, cur, rfl, hb, _⟩
 ·simp [Value.ownBlock] at hn
 ·have : g = n := by simpa [Value.ownBlock] using hn
  omega
theorem rbytes_c (f : Nat → Bool) (w : World) :
  Calls Tryz.prog 47 #[bv f] w fun e w' => e = .returned (.string (bytesOf f)) ∧ Below w.heap.size w w' := by
 obtain ⟨hz, hsz⟩ := zero_of_info (P := Tryz.prog) info27
 obtain ⟨i0, hi, hz0, hz1, hz2⟩ := info_parts infoU8
 unfold bv
 go_enter Tryz.func47, Tryz.ntmps47
 go_wp2
 go_loopw [3, 4] (fun v i wr => ∃ k : Nat, k ≤ 256 ∧ i = .int .i64 k ∧ Row wr w.heap.size f ∧ wr.ownsRow (w.heap.size + 1) 5 1 v (U f k).length ((nums (U f k)).map (Value.int .u8)) ∧ Below w.heap.size w wr) (fun _ i _ => 256 - (RowKit.intOf i).toNat)
 case atStart =>
  refine ⟨0, by omega, rfl, (Row.new w f).alloc _, ⟨rfl, .inr ⟨_, 0, #[], rfl, Nat.le_refl _, ?_, Nat.le_refl _, by unfold maxLen; omega, rfl, rfl⟩⟩, ((Below.refl _ w).alloc (Nat.le_refl _) _).alloc (by simp) _⟩
  show ((w.heap.push (Obj.cells (barr f) 30)).push (Obj.cells #[] 5))[w.heap.size + 1]? = _
  rw [show w.heap.size + 1 = (w.heap.push (Obj.cells (barr f) 30)).size from (Array.size_push _).symm]
  exact Array.getElem?_push_size
 case round =>
  obtain ⟨k, hk, rfl, h0, hown, hB⟩ := hrel
  by_cases hlt : k < 256
  ·have hc := h0.cell k hlt
   have hlen := U_length f k hk
   have hcnt := cnt_le f k
   cases hfk : f k
   ·rw [hfk] at hc
    have hU := U_miss hfk
    go_wp2
    go_roundw
    case rel =>
     refine ⟨k + 1, by omega, by simp, h0, ?_, hB⟩
     rw [hU]; exact hown
    case measure => (simp [RowKit.intOf]) <;> omega
   ·rw [hfk] at hc
    have hU := U_hit hlt hfk
    have hsz1 := h0.lt
    have hsz0 := hB.size
    go_wp2_with (at_builtin; refine wpList_append_own _ rfl _ _ 107 rfl (w.heap.size + 1) 5 i0 (.int .u8 0) 1 1 Tryz.underlying107 hi hz0 hz1 hz2 rfl (by decide) _ _ _ rfl (hown.alloc _) ⟨wr.heap.size, 0, none⟩ 1 1 [.int .u8 k] rfl rfl (cell_one_new _ _ _) (by simp [Value.oneCell']) (by unfold maxLen; omega) (by omega) (by simp; omega) ?_; intro v' w3 hown' hgrow' _)
    go_roundw
    case rel =>
     refine ⟨k + 1, by omega, by simp, (h0.alloc _).kept hgrow' (own_ne hown (by omega)), ?_, (hB.alloc (by omega) _).grown hgrow' (by simp; omega) fun n hn => Nat.le_trans (by omega) (own_ge hown hn)⟩
     rw [hU]
     simpa [nums] using hown'
    case measure => (simp [RowKit.intOf]) <;> omega
  ·obtain rfl : k = 256 := by omega
   have hcv := convert_own hown
   go_wp2
   go_ret
   exact ⟨rfl, hB⟩
end Go.Proofs.YtkmfncajdkdenaaGreatDoor
namespace Go.Proofs.YtkmfncajdkdenaaGreatDoor
open Go.RowKit Go.Lib
structure Fit3 (w : World) : Prop where
 fit : Fit w
 pow : Lib.TabIs Tryz.prog w "internal/strconv.uint64pow10" .u64 Lib.pow10Tab
theorem Fit3.below {w w' : World} (h : Fit3 w) (hB : Below w.heap.size w w') : Fit3 w' := ⟨h.fit.below hB, Lib.tabBelow_of_tabIs h.pow w' hB⟩
theorem itoa_c (n : Int) (h0 : -9223372036854775808 ≤ n) (h1 : n ≤ 9223372036854775807) (w : World) (h : Fit3 w) :
  Calls Tryz.prog 61 #[.int .i64 n] w fun e w' => e = .returned (.string ⟨(itoa n).toArray⟩) ∧ Below w.heap.size w w' := by
 refine (Tryz.strconv_Itoa n h0 h1 w h.pow).mono ?_
 rintro e w' ⟨rfl, k, os, rfl⟩
 exact ⟨rfl, Lib.below_grow _ _ (Nat.le_refl _) k os⟩
end Go.Proofs.YtkmfncajdkdenaaGreatDoor
namespace Go.Proofs.YtkmfncajdkdenaaGreatDoor
open Go.RowKit Go.Lib
def MaxLen (w : World) : Prop := ∃ m, w.cell? ⟨2, 0, none⟩ = some (.int .i64 m)
end Go.Proofs.YtkmfncajdkdenaaGreatDoor
namespace Go.Proofs.YtkmfncajdkdenaaGreatDoor
open Go.RowKit Go.Lib
structure Vars (w : World) : Prop where
 max : MaxLen w
 syn : ∃ tp p, w.var? Tryz.prog "strconv.ErrSyntax" = some #[.iface tp p]
 rng : ∃ tp p, w.var? Tryz.prog "strconv.ErrRange" = some #[.iface tp p]
theorem World.lt_of_cell {w : World} {a : Addr} {v : Value} (h : w.cell? a = some v) : a.block < w.heap.size := by
 rcases Nat.lt_or_ge a.block w.heap.size with q | q
 ·exact q
 ·unfold World.cell? at h
  rw [Array.getElem?_eq_none q] at h
  simp at h
theorem synNamed : ∃ g, Tryz.prog.globalNamed "strconv.ErrSyntax" = some g := Option.isSome_iff_exists.1 (by kernel_rfl)
theorem rngNamed : ∃ g, Tryz.prog.globalNamed "strconv.ErrRange" = some g := Option.isSome_iff_exists.1 (by kernel_rfl)
theorem MaxLen.below {w w' : World} (h : MaxLen w) (hB : Below w.heap.size w w') : MaxLen w' := by
 obtain ⟨m, h⟩ := h
 exact ⟨m, (hB.cell (World.lt_of_cell h)).trans h⟩
theorem Vars.below {w w' : World} (h : Vars w) (hB : Below w.heap.size w w') : Vars w' := by
 obtain ⟨h1, ⟨t, p, h2⟩, ⟨t', p', h3⟩⟩ := h
 obtain ⟨g, hg⟩ := synNamed
 obtain ⟨g', hg'⟩ := rngNamed
 exact ⟨h1.below hB, ⟨t, p, Joins.var_stays hg h2 hB (Nat.le_refl _)⟩, ⟨t', p', Joins.var_stays hg' h3 hB (Nat.le_refl _)⟩⟩
end Go.Proofs.YtkmfncajdkdenaaGreatDoor
namespace Go.Proofs.YtkmfncajdkdenaaGreatDoor
open Go.RowKit Go.Lib
def dig3 (n : Nat) : List UInt8 := if n < 10 then [UInt8.ofNat (48 + n)] else if n < 100 then [UInt8.ofNat (48 + n / 10), UInt8.ofNat (48 + n % 10)] else [UInt8.ofNat (48 + n / 100), UInt8.ofNat (48 + n / 10 % 10), UInt8.ofNat (48 + n % 10)]
theorem dec3 (n : Nat) (h : n < 1000) : decDigits n = dig3 n := by
 unfold dig3
 by_cases h1 : n < 10
 ·rw [if_pos h1, decDigits_one h1]
 ·rw [if_neg h1]
  by_cases h2 : n < 100
  ·rw [if_pos h2, decDigits_two h1 h2]
  ·rw [if_neg h2, decDigits, dif_neg h1, decDigits_two (by omega) (by omega), Nat.div_div_eq_div_mul]
   simp
end Go.Proofs.YtkmfncajdkdenaaGreatDoor
namespace Go.Proofs.YtkmfncajdkdenaaGreatDoor
open Go.RowKit Go.Lib
def T.nodes : T → Nat → List Nd
 | .leaf x, _ => [x]
 | .two k a b, o => a.nodes o ++ (b.nodes (o + a.size) ++ [T.root (.two k a b) o])
 | .times m M t, o => t.nodes o ++ [T.root (.times m M t) o]
 | .group n t, o => t.nodes o ++ [T.root (.group n t) o]
theorem T.nodes_len : ∀ (t : T) (o : Nat), (t.nodes o).length = t.size
 | .leaf x, o => rfl
 | .two k a b, o => by simp [T.nodes, T.size, T.nodes_len a, T.nodes_len b]; omega
 | .times m M t, o => by simp [T.nodes, T.size, T.nodes_len t]
 | .group n t, o => by simp [T.nodes, T.size, T.nodes_len t]
theorem T.At.nodes {l : Nat → Option Nd} : ∀ (t : T) (o : Nat), T.At l t o → ∀ i, i < t.size → l (o + i) = (t.nodes o)[i]?
 | .leaf x, o, h, i, hi => by
  simp only [T.size] at hi
  obtain rfl : i = 0 := by omega
  exact h
 | .two k a b, o, ⟨h1, h2, h3⟩, i, hi => by
  simp only [T.size] at hi
  simp only [T.nodes]
  rcases Nat.lt_or_ge i a.size with c | c
  ·rw [List.getElem?_append_left (by rw [T.nodes_len]; exact c)]
   exact T.At.nodes a o h1 i c
  ·rw [List.getElem?_append_right (by rw [T.nodes_len]; exact c), T.nodes_len]
   rcases Nat.lt_or_ge (i - a.size) b.size with d | d
   ·rw [List.getElem?_append_left (by rw [T.nodes_len]; exact d), ← T.At.nodes b _ h2 _ d]
    congr 1; omega
   ·rw [List.getElem?_append_right (by rw [T.nodes_len]; exact d), T.nodes_len]
    have e : i - a.size - b.size = 0 := by omega
    rw [e, show o + i = o + a.size + b.size by omega, h3]
    rfl
 | .times m M t, o, ⟨h1, h3⟩, i, hi => by
  simp only [T.size] at hi
  simp only [T.nodes]
  rcases Nat.lt_or_ge i t.size with c | c
  ·rw [List.getElem?_append_left (by rw [T.nodes_len]; exact c)]
   exact T.At.nodes t o h1 i c
  ·rw [List.getElem?_append_right (by rw [T.nodes_len]; exact c), T.nodes_len]
   have e : i - t.size = 0 := by omega
   rw [e, show o + i = o + t.size by omega, h3]
   rfl
 | .group n t, o, ⟨h1, h3⟩, i, hi => by
  simp only [T.size] at hi
  simp only [T.nodes]
  rcases Nat.lt_or_ge i t.size with c | c
  ·rw [List.getElem?_append_left (by rw [T.nodes_len]; exact c)]
   exact T.At.nodes t o h1 i c
  ·rw [List.getElem?_append_right (by rw [T.nodes_len]; exact c), T.nodes_len]
   have e : i - t.size = 0 := by omega
   rw [e, show o + i = o + t.size by omega, h3]
   rfl
theorem IsPat.nodes {xs : List Nd} {t : T} (h : IsPat xs t) : xs = t.nodes 0 := by
 obtain ⟨_, ha, hs, _⟩ := h
 apply List.ext_getElem?
 intro i
 rcases Nat.lt_or_ge i t.size with c | c
 ·have := T.At.nodes t 0 ha i c
  rw [Nat.zero_add] at this
  exact this
 ·rw [List.getElem?_eq_none (by omega), List.getElem?_eq_none (by rw [T.nodes_len]; exact c)]
end Go.Proofs.YtkmfncajdkdenaaGreatDoor
namespace Go.Proofs.YtkmfncajdkdenaaGreatDoor
open Go.RowKit
theorem sizeSB : (Tryz.prog.info? 153).map (fun i => i.size) = some 2 := by kernel_rfl
theorem check_fresh (b : Nat) (w : World) (h0 : w.cell? ⟨b, 0, none⟩ = some (.pointer none)) (hsh : w.shape? b = some (153, 2)) (hfz : w.frozen? ⟨b, 0, none⟩ = false) :
  Calls Tryz.prog 132 #[.pointer (some ⟨b, 0, none⟩)] w fun e w' => e = .returned (.tuple #[]) ∧ w' = w.setCell ⟨b, 0, none⟩ (.pointer (some ⟨b, 0, none⟩)) := by
 obtain ⟨j, hj, hjs⟩ := Option.map_eq_some_iff.1 sizeSB
 go_enter Tryz.func132, Tryz.ntmps132
 go_wp2
 rw [Lib.run_to_unsafe w ⟨b, 0, none⟩ Tryz.underlying151 Tryz.underlying172 hj (by rw [hjs]; decide) hsh (Nat.zero_lt_succ 1)]
 simp only [Result.andThen]
 rw [Oper.upon_value]
 go_wp2
 rw [run_callFunc_extern Tryz.func144 (by kernel_rfl) (by kernel_rfl) (by kernel_rfl) (e := Extern.AbiNoEscape.same) (by kernel_rfl)]
 rw [Lib.run_noEscape]
 simp only [Result.andThen]
 rw [Oper.upon_value]
 go_wp2
 rw [Lib.run_from_unsafe w ⟨b, 0, none⟩ Tryz.underlying172 Tryz.underlying151 hj hsh (by kernel_rfl)]
 simp only [Result.andThen]
 rw [Oper.upon_value]
 go_wp2
 go_end0
 exact ⟨rfl, rfl⟩
theorem check_used (b : Nat) (w : World) (h0 : w.cell? ⟨b, 0, none⟩ = some (.pointer (some ⟨b, 0, none⟩))) :
  Calls Tryz.prog 132 #[.pointer (some ⟨b, 0, none⟩)] w fun e w' => e = .returned (.tuple #[]) ∧ w' = w := by
 obtain ⟨j, hj, _⟩ := Option.map_eq_some_iff.1 sizeSB
 go_enter Tryz.func132, Tryz.ntmps132
 go_wp2
 rw [Lib.run_neq_ptr_same w _ Tryz.underlying151 hj]
 go_wp2
 go_end0
 exact ⟨rfl, rfl⟩
def SB (B b : Nat) (bs : List Value) (w : World) : Prop := Lib.IsBuilderF 153 5 B b bs w
def SK (B b : Nat) (w w' : World) : Prop := Below B w w' ∧ Lib.OthersKept 5 (some b) w w'
theorem check_c (B b : Nat) (bs : List Value) (w : World) (h : SB B b bs w) :
  Calls Tryz.prog 132 #[.pointer (some ⟨b, 0, none⟩)] w fun e w' => e = .returned (.tuple #[]) ∧ Lib.BuilderAtF 153 5 B b (.pointer (some ⟨b, 0, none⟩)) bs w' ∧ SK B b w w' := by
 rcases h with h | h
 ·refine (check_fresh b w h.cell0 h.shape h.frozen0).mono ?_
  rintro e w' ⟨rfl, rfl⟩
  exact ⟨rfl, h.used _, (Below.refl B w).setCell (p := ⟨b, 0, none⟩) h.1 _, (Lib.OthersKept.refl _ _ w).setCell ⟨b, 0, none⟩ rfl _⟩
 ·refine (check_used b w h.cell0).mono ?_
  rintro e w' ⟨rfl, rfl⟩
  exact ⟨rfl, h, Below.refl B _, Lib.OthersKept.refl _ _ _⟩
theorem wstr_c (B b : Nat) (bs : List Value) (s : ByteArray) (w : World) (h : SB B b bs w) (hlen : bs.length + s.size ≤ 140737488355328) (hBw : B ≤ w.heap.size) :
  Calls Tryz.prog 123 #[.pointer (some ⟨b, 0, none⟩), .string s] w fun e w' => e = .returned (.tuple #[.int .i64 s.size, .nilIface]) ∧ SB B b (bs ++ Lib.strCells s) w' ∧ SK B b w w' := by
 obtain ⟨i0, hi, hz0, hz1, hz2⟩ := info_parts infoU8
 have CK := Lib.hid (check_c B b bs w h)
 go_enter Tryz.func123, Tryz.ntmps123
 go_wp2_with fail
 refine CK.out.mono ?_
 rintro e w1 ⟨rfl, h1, hb1, hk1⟩
 obtain ⟨hB, v, hbk, hown, hne⟩ := h1
 have c1 : w1.cell? ⟨b, 1, none⟩ = some v := by rw [Lib.cell_of_heap hbk]; rfl
 go_wp2_with (at_builtin; refine Lib.wpList_append_own_stringF _ rfl _ _ 107 9 rfl B 5 i0 Tryz.underlying107 Tryz.underlying9 hi hz0 hz1 hz2 _ _ _ rfl hown s rfl ?c3 ?c4 ?c5 ?_)
 case c3 => unfold maxLen; omega
 case c4 => omega
 case c5 => have := hb1.size; omega
 intro v' w2 hown' hgrow _
 have hlt : b < w1.heap.size := (Array.getElem?_eq_some_iff.1 hbk).1
 have hb2 : w2.heap[b]? = some (.cells #[.pointer (some ⟨b, 0, none⟩), v] 153 (0, 0)) := by
  rw [hgrow.block b hlt (fun e => hne e.symm)]
  exact hbk
 have d1 : w2.cell? ⟨b, 1, none⟩ = some v := by rw [Lib.cell_of_heap hb2]; rfl
 have f1 : w2.frozen? ⟨b, 1, none⟩ = false := Lib.frozen_of_heap hb2 1
 obtain ⟨ao, n', cap, rfl⟩ : ∃ ao n' cap, v' = .slice ao n' cap := by
  rcases hown'.2 with ⟨hv, _⟩ | ⟨g, cap, cur, fz, hv, _⟩
  ·exact ⟨_, _, _, hv⟩
  ·exact ⟨_, _, _, hv⟩
 go_wp2
 go_ret2
 refine ⟨rfl, .inr ?_, ?_, (hk1.grown hgrow (Lib.ownsRowF_kind hown)).setCell ⟨b, 1, none⟩ rfl _⟩
 ·exact Lib.BuilderAtF.put (T := 153) (e := 5) hB hb2 (bs' := bs ++ Lib.strCells s) (by simpa [Lib.strCells_length] using hown') (by decide)
 ·exact (hb1.grown hgrow (by have := hb1.size; omega) (fun k hk => (hown.lt k hk).1)).setCell (p := ⟨b, 1, none⟩) hB _
end Go.Proofs.YtkmfncajdkdenaaGreatDoor
namespace Go.Proofs.YtkmfncajdkdenaaGreatDoor
open Go.RowKit
theorem BuilderAtF.below {T e : TypeId} {B b : Nat} {p : Value} {bs : List Value} {w w' : World} (h : Lib.BuilderAtF T e B b p bs w) (hB : Below w.heap.size w w') : Lib.BuilderAtF T e B b p bs w' := by
 obtain ⟨h1, v, h2, h3, h4⟩ := h
 refine ⟨h1, v, (hB.block b (Array.getElem?_eq_some_iff.1 h2).1).trans h2, ⟨h3.1, ?_⟩, h4⟩
 rcases h3.2 with h | ⟨g, cap, cur, fz, e1, e2, e3, r⟩
 ·exact .inl h
 ·exact .inr ⟨g, cap, cur, fz, e1, e2, (hB.block g (Array.getElem?_eq_some_iff.1 e3).1).trans e3, r⟩
theorem SB.below {B b : Nat} {bs : List Value} {w w' : World} (h : SB B b bs w) (hB : Below w.heap.size w w') : SB B b bs w' := h.imp (fun x => BuilderAtF.below x hB) (fun x => BuilderAtF.below x hB)
theorem SK.of {B b : Nat} {w w' : World} (hB : Below w.heap.size w w') (h : B ≤ w.heap.size) : SK B b w w' :=
 ⟨hB.mono h, fun k o hk _ _ => (hB.block k (Array.getElem?_eq_some_iff.1 hk).1).trans hk⟩
theorem SK.trans {B b : Nat} {w w' w2 : World} (h : SK B b w w') (h' : SK B b w' w2) : SK B b w w2 := ⟨h.1.trans h'.1, h.2.trans h'.2⟩
section
variable {L C b o n cap : Nat} {xs : List Nd} {bs bs' : List Value} {w w' : World}
end
end Go.Proofs.YtkmfncajdkdenaaGreatDoor
namespace Go.Proofs.YtkmfncajdkdenaaGreatDoor
open Go.RowKit
theorem cells_app (a b : List UInt8) : Lib.byteCells (a ++ b) = Lib.byteCells a ++ Lib.byteCells b := List.map_append ..
theorem cells_len (a : List UInt8) : (Lib.byteCells a).length = a.length := by simp [Lib.byteCells]
end Go.Proofs.YtkmfncajdkdenaaGreatDoor
namespace Go.Proofs.YtkmfncajdkdenaaGreatDoor
open Go.RowKit Go.Lib
structure Fit4 (w : World) : Prop where
 f : Fit3 w
 v : Vars w
theorem Fit4.below {w w' : World} (h : Fit4 w) (hB : Below w.heap.size w w') : Fit4 w' := ⟨h.f.below hB, h.v.below hB⟩
end Go.Proofs.YtkmfncajdkdenaaGreatDoor
