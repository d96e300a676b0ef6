/- match: spans as the laws ask them. -/
import Derived.Test.YtibkllialokdeaaGreatDoorJMaD
import Derived.Test.YtibkllialokdeaaGreatDoorJMbB
import Derived.Test.YtibkllialokdeaaGreatDoorJMbG
import Derived.Test.YtibkllialokdeaaGreatDoorJMbL
import Derived.Test.YtibkllialokdeaaGreatDoorJMbN
import Derived.Test.YtibkllialokdeaaGreatDoorJMbO
import Derived.Test.YtibkllialokdeaaGreatDoorJMbS
import Derived.Test.YtibkllialokdeaaGreatDoorJMbT
import Derived.Test.YtibkllialokdeaaGreatDoorJMbV
import Derived.Test.YtibkllialokdeaaGreatDoorJMbW
import Derived.Test.YtibkllialokdeaaGreatDoorJMcD
import Derived.Test.YtibkllialokdeaaGreatDoorJMcH
import Derived.Test.YtibkllialokdeaaGreatDoorJMcK
import Derived.Test.YtibkllialokdeaaGreatDoorJMcM
import Derived.Test.YtibkllialokdeaaGreatDoorJMcN
import Derived.Test.YtibkllialokdeaaGreatDoorJMcO
import Derived.Test.YtibkllialokdeaaGreatDoorJMcQ
import Derived.Test.YtibkllialokdeaaGreatDoorJMcT
import Derived.Test.YtibkllialokdeaaGreatDoorJMcV
import Derived.Test.YtibkllialokdeaaGreatDoorJMdB
import Derived.Test.YtibkllialokdeaaGreatDoorJMdF
import Derived.Test.YtibkllialokdeaaGreatDoorJMdM
import Derived.Test.YtibkllialokdeaaGreatDoorJRxA
import Derived.Test.YtibkllialokdeaaGreatDoorJRxB
import Derived.Test.YtibkllialokdeaaGreatDoorJRxD
import Derived.Test.YtibkllialokdeaaGreatDoorJRxG
import Derived.Test.YtibkllialokdeaaGreatDoorJRxTa
import Derived.Test.YtibkllialokdeaaGreatDoorJRxTj
import Derived.Test.YtibkllialokdeaaGreatDoorJRxTn
import Derived.Test.YtibkllialokdeaaGreatDoorJRxTo
import Derived.Test.YtibkllialokdeaaGreatDoorJRxTr
import Derived.Test.YtibkllialokdeaaGreatDoorJRxU
import Derived.Test.YtibkllialokdeaaGreatDoorJRxW
import Derived.Test.YtibkllialokdeaaGreatDoorJRxX
import Derived.Test.YtibkllialokdeaaGreatDoorJShelf
import Derived.Test.YtibkllialokdeaaGreatDoorJSpanB
import Derived.Test.YtibkllialokdeaaGreatDoorJSpanE
import Derived.Test.YtibkllialokdeaaGreatDoorRows
import Derived.Test.YtibkllialokdeaaGreatDoorTie
import Derived.Test.YtibkllialokdeaaGreatDoorCards
import Derived.Lib.TrailingZeros
import Derived.Laws.Bits64b
import Derived.Deep.WholeRow
import Derived.OwnWalk
import Derived.Laws.Cover3
import Derived.Deep.CutBlock
import Derived.Laws.DeepStrings4
set_option linter.unusedVariables false
set_option linter.unusedSimpArgs false
set_option maxRecDepth 100000
set_option maxHeartbeats 40000000
namespace Go.Proofs.YtibkllialokdeaaGreatDoor
theorem wd_inj {f g : Nat → Bool} (h : ∀ k, k < 4 → wd f k = wd g k) : ∀ i, i < 256 → f i = g i := fun i hi => by
 have e := h (i / 64) (by omega)
 have h1 := wd_bit f (i / 64) (i % 64) (by omega)
 have h2 := wd_bit g (i / 64) (i % 64) (by omega)
 rw [e] at h1
 rw [show 64 * (i / 64) + i % 64 = i by omega] at h1 h2
 rw [← h1, ← h2]
/-! ### How many bits are 1 -/
end Go.Proofs.YtibkllialokdeaaGreatDoor
namespace Go.Proofs.YtibkllialokdeaaGreatDoor
open Go.RowKit
theorem barr_size (f : Nat → Bool) : (barr f).size = 256 := by simp [barr]
theorem barr_congr {f g : Nat → Bool} (h : ∀ i, i < 256 → f i = g i) : barr f = barr g := by
 unfold barr
 congr 1
 apply List.map_congr_left
 intro i hi
 rw [h i (by simpa using hi)]
theorem barr_at (f : Nat → Bool) (j : Nat) (h : j < 256) : (barr f)[j]? = some (.bool (f j)) := by simp [barr, h]
theorem barr_set (f : Nat → Bool) (j : Nat) (v : Bool) : (barr f).setIfInBounds j (.bool v) = barr (fun i => if i = j then v else f i) := by
 apply Array.ext_getElem?
 intro i
 rw [Array.getElem?_setIfInBounds]
 by_cases hi : i < 256
 ·rw [barr_at _ i hi, barr_at _ i hi, barr_size]
  by_cases e : j = i
  ·subst e; simp [hi]
  ·have e' : ¬ i = j := fun h => e h.symm
   simp [e, e']
 ·have h1 : (barr f)[i]? = none := Array.getElem?_eq_none (by rw [barr_size]; omega)
  have h2 : (barr fun k => if k = j then v else f k)[i]? = none := Array.getElem?_eq_none (by rw [barr_size]; omega)
  rw [h1, h2, barr_size]
  split <;> first | rfl | (split <;> first | rfl | omega)
theorem info27 : (Tryz.prog.info? 148).map (fun i => (i.zero, i.size)) = some (some (.agg (barr fun _ => false)), 256) := by kernel_rfl
structure Row (W : World) (b : Nat) (f : Nat → Bool) : Prop where
 heap : W.heap[b]? = some (.cells (barr f) 148 (0, 0))
section
variable {W : World} {b : Nat} {f : Nat → Bool}
theorem Row.lt (h : Row W b f) : b < W.heap.size := (Array.getElem?_eq_some_iff.1 h.heap).1
theorem Row.cell (h : Row W b f) (j : Nat) (hj : j < 256) : W.cell? ⟨b, j, none⟩ = some (.bool (f j)) := by simp [World.cell?, h.heap, barr_at f j hj]
theorem Row.fz (h : Row W b f) (j : Nat) : W.frozen? ⟨b, j, none⟩ = false := by simp [World.frozen?, h.heap]
theorem Row.below {B : Nat} {W' : World} (h : Row W b f) (hB : Below B W W') (hb : b < B) : Row W' b f := ⟨(hB.block b hb).trans h.heap⟩
theorem Row.alloc (h : Row W b f) (o : Obj) : Row (W.alloc o) b f := h.below (B := W.heap.size) ((Below.refl _ W).alloc (Nat.le_refl _) o) h.lt
theorem Row.set (h : Row W b f) (j : Nat) (v : Bool) : Row (W.setCell ⟨b, j, none⟩ (.bool v)) b (fun i => if i = j then v else f i) := ⟨by rw [heap_setCell_same _ b j _ _ _ h.heap, barr_set]⟩
theorem Row.other (h : Row W b f) {p : Addr} (hp : b ≠ p.block) (u : Value) : Row (W.setCell p u) b f := ⟨(Below.heap_setCell W p u b hp).trans h.heap⟩
theorem Row.new (W : World) (f : Nat → Bool) : Row (W.alloc (.cells (barr f) 148)) W.heap.size f := ⟨by show (W.heap.push _)[W.heap.size]? = _; simp⟩
theorem Row.congr {g : Nat → Bool} (h : Row W b f) (e : ∀ i, i < 256 → f i = g i) : Row W b g := ⟨by rw [← barr_congr e]; exact h.heap⟩
theorem size27 : (Tryz.prog.info? 148).map (·.size) = some 256 := (zero_of_info info27).2
theorem Row.load (h : Row W b f) : (loadVar 148 ⟨b, 0, none⟩).run Tryz.prog W = .ok (.agg (barr f)) W :=
 run_loadVar_row W b 148 148 (barr f) (0, 0) _ h.heap Tryz.underlying148 rfl (by rw [size27, barr_size])
theorem Row.loadAt (h : Row W b f) : (Instr.loadAt 148 (.pointer (some ⟨b, 0, none⟩))).run Tryz.prog W = .ok (.agg (barr f)) W := by
 simp only [Instr.loadAt, Instr.sureAddr, Sem.run_bind, Sem.run_pure, Result.andThen]
 exact h.load
theorem Row.put (h : Row W b f) (g : Nat → Bool) : Row (W.setRow b (barr g)) b g := ⟨by
 obtain ⟨hlt, hk⟩ := Array.getElem?_eq_some_iff.1 h.heap
 show (W.heap.modify b _)[b]? = _
 rw [Array.getElem?_eq_getElem (by rw [Array.size_modify]; exact hlt), Array.getElem_modify_self, hk]⟩
theorem Below.setRow {B : Nat} {a w : World} (h : Below B a w) {b : Nat} (hb : B ≤ b) (c : Array Value) : Below B a (w.setRow b c) :=
 h.trans ⟨rfl, rfl, rfl, by simp [World.setRow], fun k hk => by
  show (w.heap.modify b _)[k]? = _
  rw [Array.getElem?_modify, if_neg (by omega)]⟩
end
end Go.Proofs.YtibkllialokdeaaGreatDoor
namespace Go.Proofs.YtibkllialokdeaaGreatDoor
open Go.RowKit
theorem Row.kept {A B : World} {row : Option Nat} {b : Nat} {f : Nat → Bool} (h : Row A b f) (hg : A.grownBy B row) (hr : row ≠ some b) : Row B b f := ⟨(hg.block b h.lt (fun e => hr e.symm)).trans h.heap⟩
end Go.Proofs.YtibkllialokdeaaGreatDoor
namespace Go.Proofs.YtibkllialokdeaaGreatDoor
open Go.ChangeShapes Go.WideShapes Go.ChangeAt Go.RowKit
def setDQ {H : Type} (f : Nat → Bool) : DataW H := .agg [.lit (.int .u64 (wd f 0)), .lit (.int .u64 (wd f 1)), .lit (.int .u64 (wd f 2)), .lit (.int .u64 (wd f 3))]
theorem list4Q {α : Type} (l : List α) (h : (⟨l⟩ : Array α).size = 4) : ∃ a b c d, l = [a, b, c, d] := by
 match l, h with
 | [a, b, c, d], _ => exact ⟨a, b, c, d, rfl⟩
theorem cells22Q : Tryz.prog.cellsOf 52 = 1 := by kernel_rfl
theorem cells24Q : Tryz.prog.cellsOf 54 = 4 := by kernel_rfl
theorem wf_wordQ (f : Nat → Bool) (k : Nat) : (Lit.int .u64 (wd f k : Int)).wf = true := by
 have := wd_lt f k
 simp [Lit.wf, IntKind.min, IntKind.max, IntKind.signed, IntKind.bits]
 omega
section
variable {H : Type} {enc : TypeId × Value → H} {W : World} {base b0 : Nat} {sp : Nat → Bool} {held : Bool} {r : Reach}
theorem open_setQ {v : Value} {d : DataW H} {ps : List MemPlace} (hval : Value.okWide Tryz.prog W r b0 54 v) (hd : DataW.Trod enc Tryz.prog W base sp held 54 v d ps) :
  ∃ f, v = sv f ∧ d = setDQ f ∧ ps = [] := by
 obtain ⟨cs, rfl, hsz, _⟩ : ∃ cs, v = .agg cs ∧ cs.size = Tryz.prog.cellsOf 54 ∧ Row.okWide Tryz.prog W r b0 54 cs := by
  simpa [Value.okWide, Tryz.underlying54] using hval
 rw [cells24Q] at hsz
 obtain ⟨l⟩ := cs
 obtain ⟨c0, c1, c2, c3, rfl⟩ := list4Q l hsz
 obtain ⟨fuel, hf⟩ := hd
 obtain ⟨y0, y1, y2, y3, m, hx, hy0, hy1, hy2, hy3⟩ := trod_array4 Tryz.underlying54 cells22Q hf
 obtain ⟨x0, e0, rfl, w0⟩ := DataW.trod_int Tryz.underlying52 hy0
 obtain ⟨x1, e1, rfl, w1⟩ := DataW.trod_int Tryz.underlying52 hy1
 obtain ⟨x2, e2, rfl, w2⟩ := DataW.trod_int Tryz.underlying52 hy2
 obtain ⟨x3, e3, rfl, w3⟩ := DataW.trod_int Tryz.underlying52 hy3
 simp at e0 e1 e2 e3
 subst e0 e1 e2 e3
 simp only [Prod.mk.injEq] at hx
 obtain ⟨rfl, rfl⟩ := hx
 obtain ⟨n0, rfl, l0⟩ := word_of_wf w0
 obtain ⟨n1, rfl, l1⟩ := word_of_wf w1
 obtain ⟨n2, rfl, l2⟩ := word_of_wf w2
 obtain ⟨n3, rfl, l3⟩ := word_of_wf w3
 obtain ⟨g0, g1, g2, g3⟩ := ofWords_wd l0 l1 l2 l3
 refine ⟨ofWords n0 n1 n2 n3, ?_, ?_, rfl⟩
 ·unfold sv; rw [g0, g1, g2, g3]
 ·unfold setDQ; rw [g0, g1, g2, g3]
theorem shut_setQ (f : Nat → Bool) : DataW.Trod enc Tryz.prog W base sp held 54 (sv f) (setDQ f) [] :=
 ⟨2, by simp [sv, setDQ, DataW.trod, Value.cells, Tryz.underlying54, Tryz.underlying52, cells24Q, cells22Q, wf_wordQ, show List.range 4 = [0, 1, 2, 3] from rfl]⟩
end
end Go.Proofs.YtibkllialokdeaaGreatDoor
namespace Go.Proofs.YtibkllialokdeaaGreatDoor
open Go.RowKit Go.Lib
def ndO (F : Nat → Bool) : Nd := ⟨1, wd F 0, wd F 1, wd F 2, wd F 3, 0, 0, 0, 0, 0⟩
theorem cnt_none {F : Nat → Bool} (h : ∀ i, i < 256 → F i = false) : cnt F 256 = 0 := by
 rw [cnt_congr (g := F) (h := fun _ => false) h]
 have : ∀ n, cnt (fun _ => false) n = 0 := fun n => by
  induction n with
  | zero => rfl
  | succ n ih => rw [cnt, ih]; rfl
 exact this 256
theorem ndO_set (F : Nat → Bool) (i : Nat) (hi : i < 256) : (ndO F).set i = F i := by
 show ofWords (wd F 0) (wd F 1) (wd F 2) (wd F 3) i = F i
 obtain ⟨a, b, c, d⟩ := ofWords_wd (wd_lt F 0) (wd_lt F 1) (wd_lt F 2) (wd_lt F 3)
 refine wd_inj (f := ofWords (wd F 0) (wd F 1) (wd F 2) (wd F 3)) (g := F) (fun k hk => ?_) i hi
 rcases (by omega : k = 0 ∨ k = 1 ∨ k = 2 ∨ k = 3) with rfl | rfl | rfl | rfl
 ·exact a
 ·exact b
 ·exact c
 ·exact d
theorem ndO_fits (F : Nat → Bool) : (ndO F).Fits := ⟨(by show (-9223372036854775808 : Int) ≤ 1 ∧ (1 : Int) ≤ 9223372036854775807; omega), wd_lt _ _, wd_lt _ _, wd_lt _ _, wd_lt _ _, (by show (-9223372036854775808 : Int) ≤ 0 ∧ (0 : Int) ≤ 9223372036854775807; omega), (by show (-9223372036854775808 : Int) ≤ 0 ∧ (0 : Int) ≤ 9223372036854775807; omega), (by show (-9223372036854775808 : Int) ≤ 0 ∧ (0 : Int) ≤ 9223372036854775807; omega), (by show (-9223372036854775808 : Int) ≤ 0 ∧ (0 : Int) ≤ 9223372036854775807; omega), (by show (-9223372036854775808 : Int) ≤ 0 ∧ (0 : Int) ≤ 9223372036854775807; omega)⟩
theorem ndO_isNd {F : Nat → Bool} (h : cnt F 256 ≠ 0) : isNd (ndO F) = true := by
 unfold isNd
 have hk : (ndO F).kind = 1 := rfl
 rw [if_neg (by rw [hk]; omega), if_pos hk, Bool.and_eq_true, decide_eq_true_iff, decide_eq_true_iff]
 refine ⟨fun q => h (cnt_none fun i hi => ?_), rfl⟩
 rw [← ndO_set F i hi]
 show ofWords (wd F 0) (wd F 1) (wd F 2) (wd F 3) i = false
 have q' : wd F 0 = 0 ∧ wd F 1 = 0 ∧ wd F 2 = 0 ∧ wd F 3 = 0 := q
 rw [q'.1, q'.2.1, q'.2.2.1, q'.2.2.2]
 simp [ofWords]
theorem one_pat {F : Nat → Bool} (h : cnt F 256 ≠ 0) : IsPat [ndO F] (.leaf (ndO F)) := by
 have hone : ∀ (i : Nat) (x : Nd), [ndO F][i]? = some x → x = ndO F := fun i x hx => by
  have := List.mem_of_getElem? hx
  simpa using this
 refine ⟨⟨ndO_isNd h, .inr (.inl rfl)⟩, rfl, rfl, by simp, fun i x hx => by rw [hone i x hx]; exact ndO_isNd h, fun i x hx => ?_, rfl⟩
 rw [hone i x hx]
 have hk : (ndO F).kind = 1 := rfl
 unfold pOk
 rw [if_neg (by rw [hk]; omega), if_neg (by rw [hk]; omega), if_neg (by rw [hk]; omega), if_neg (by rw [hk]; omega)]
 trivial
theorem one_wh (s : List UInt8) (F : Nat → Bool) (i j : Nat) : whR s (.leaf (ndO F)) i j = match s[i]? with | some c => decide (j = i + 1) && F c.toNat | none => false := by
 have e : (semT s (.leaf (ndO F))).ends i 0 noC j = match leafE s (ndO F) i noC with | some w => decide (j = i + w) | none => false := by
  show (if (ndO F).kind = -1 then decide (i ≤ j) && decide (j ≤ s.length) else match leafE s (ndO F) i noC with | some w => decide (j = i + w) | none => false) = _
  rw [if_neg (by show ¬ (1 : Int) = -1; omega)]
 unfold whR
 rw [e]
 unfold leafE
 have hk : (ndO F).kind = 1 := rfl
 rw [if_neg (by rw [hk]; omega), if_pos hk]
 cases hs : s[i]? with
 | none => simp
 | some c =>
  simp only
  rw [ndO_set F c.toNat c.toNat_lt]
  cases F c.toNat with
  | false => simp
  | true =>
   simp only [if_true, Bool.and_true]
   by_cases q : j = i + 1
   ·simp [q]
   ·simp [q]
theorem one_cap (s : List UInt8) (F : Nat → Bool) (i j : Nat) : whC s (.leaf (ndO F)) i j = (if whR s (.leaf (ndO F)) i j = true then fun g => if g = 0 then some (i, j) else none else noC) := by
 unfold whC
 split
 ·funext g
  unfold wholeC
  by_cases q : g = 0
  ·rw [if_pos q, if_pos q]
  ·rw [if_neg q, if_neg q]
   rfl
 ·rfl
end Go.Proofs.YtibkllialokdeaaGreatDoor
namespace Go.Proofs.YtibkllialokdeaaGreatDoor
open Go.RowKit Go.Lib
theorem bd_len {xs : List Nd} {s : List UInt8} (h : bdR xs s = true) : xs.length ≤ 24 ∧ s.length ≤ 9 := by
 unfold bdR at h
 simp only [Bool.and_eq_true, decide_eq_true_iff] at h
 exact h.1
section
variable (p : Option Addr) (n cap : Nat) (xs : List Nd) (s : List UInt8) (w : World)
variable {p n xs s w}
end
end Go.Proofs.YtibkllialokdeaaGreatDoor
namespace Go.Proofs.YtibkllialokdeaaGreatDoor
open Go.RowKit Go.Lib Go.Proofs.YtibkllialokdeaaGreatDoor.Fl
theorem tku {P : Program} {ops : Array Oper} {Q : Exit → Act → World → Prop} {md : Region.Mode} {S : World → Prop} {i : Nat} {oi : Oper} {fuel : Nat} {listed : Array Bool} {a : Act} {w : World} (hi : ops[i]? = some oi)
  (h : wpAnyH P md ops Q S fuel (listed.setIfInBounds i true) (a.put oi.dst undef) w)
  (hs : Region.noSelect ops = true := by kernel_rfl) (hf : Region.free md ops listed i = true := by kernel_rfl) (hr : (Region.ready md ops listed).contains i = true := by kernel_rfl)
  (hW : Region.wanted oi (yielded ops a.tmps) = false := by kernel_rfl) (hQ : ∀ c a w, Q (.panic c) (a.put oi.dst undef) w → Q (.panic c) a w := by exact fun _ _ _ h => h) (hS : S w := by assumption) : wpAnyH P md ops Q S (fuel + 1) listed a w :=
 wpAnyH_take hi hs hf hr hQ (Or.inr ⟨hW, rfl⟩) hS h
theorem noC_eq (W : World) : (binOp .eql 27 (.agg #[spV (noC 0), spV (noC 1), spV (noC 2), spV (noC 3), spV (noC 4), spV (noC 5), spV (noC 6), spV (noC 7), spV (noC 8), spV (noC 9)]) (capV fun x => none)).run Tryz.prog W = .ok (.bool true) W := by kernel_rfl
theorem noC_gd (x y : Operand) (W : World) : (eqGuard .eql 27 x y (.agg #[spV (noC 0), spV (noC 1), spV (noC 2), spV (noC 3), spV (noC 4), spV (noC 5), spV (noC 6), spV (noC 7), spV (noC 8), spV (noC 9)]) (capV fun x => none)).run Tryz.prog W = .ok () W := by kernel_rfl
end Go.Proofs.YtibkllialokdeaaGreatDoor
