/- What lifts the walks of stage 3: the listed variables; a slice of nodes among the arguments. -/
import Derived.Test.YtgllmhheahlpjaaGreatDoorJRxTr
import Derived.Test.YtgllmhheahlpjaaGreatDoorTie
import Derived.Test.YtgllmhheahlpjaaGreatDoorCards
import Derived.ProofKit
import Derived.LaidMore
import Derived.OpenShut
import Derived.Stop.Joined
import Derived.Lib.LaidTab
import Derived.Lib.LaidU8
import Derived.SevenTiedAt
import Derived.Laws.IdiomArrays
import Derived.Deep.Slices
import Derived.SizedLaws
import Derived.Shelf.Vars
import Derived.Carry
import Derived.Test.YtgllmhheahlpjaaGreatDoorJRxU
import Derived.Lib.ItoaNum
import Derived.OrdersHeld
import Derived.WalkKit
import Derived.Deep.RegionHeld3
import Derived.Test.YtgllmhheahlpjaaGreatDoorJRxD
set_option linter.unusedVariables false
set_option linter.unusedSimpArgs false
set_option maxRecDepth 100000
set_option maxHeartbeats 40000000
namespace Go.Proofs.YtgllmhheahlpjaaGreatDoor
open Go.ChangeShapes Go.WideShapes Go.ChangeAt Go.RowKit
theorem own : ownKnob Tryz.prog.godebug = none := by kernel_rfl
theorem laidOut : laidOutB Tryz.prog = true := by kernel_rfl
def laid3 : List (String × DataW Unit) := [("math/bits.deBruijn32tab", Rows.laid_math_bits_deBruijn32tab), ("math/bits.deBruijn64tab", Rows.laid_math_bits_deBruijn64tab), ("internal/strconv.uint64pow10", Rows.laid_internal_strconv_uint64pow10), ("strconv.ErrRange", Rows.laid_strconv_ErrRange), ("strconv.ErrSyntax", Rows.laid_strconv_ErrSyntax)]
theorem door_met (os : Os) (args : Array Value) : laidMetH Tryz.prog laid3 ((World.doorLaid Tryz.prog 400 os).forCall (fun _ _ => 0) ⟨#[], args, []⟩).memory :=
 laidMetH_of_parts3 (fuel := 8) (laidMet_of_run' 8 (by kernel_rfl) (by kernel_rfl)) (by kernel_rfl) (by kernel_rfl)
theorem data64 : (Rows.laid_math_bits_deBruijn64tab : DataW Unit) = Lib.tabData .u8 (Lib.deBruijn64tab.map (fun k : Nat => (k : Int))) := by
 simp [Rows.laid_math_bits_deBruijn64tab, Lib.tabData, Lib.deBruijn64tab]
theorem dataPow : (Rows.laid_internal_strconv_uint64pow10 : DataW Unit) = Lib.tabData .u64 Lib.pow10Tab := by
 simp [Rows.laid_internal_strconv_uint64pow10, Lib.tabData, Lib.pow10Tab, show List.range 20 = [0, 1, 2, 3, 4, 5, 6, 7, 8, 9, 10, 11, 12, 13, 14, 15, 16, 17, 18, 19] from rfl]
theorem tab_of_reads {W : World} {name : String} {g : Nat} {t e : TypeId} {n : Nat} {k : IntKind} {zs : List Int} (hg : Tryz.prog.globalNamed name = some g) (hty : (Tryz.prog.globals[g]?).map (·.type) = some t)
  (ht : Tryz.prog.underlying t = some (.array n e)) (he : Tryz.prog.underlying e = some (.int k)) (hce : Tryz.prog.cellsOf e = 1) (hct : Tryz.prog.cellsOf t = n) (h : Lib.VarReads Tryz.prog W name (Lib.tabData k zs)) : Lib.TabIs Tryz.prog W name k zs := by
 obtain ⟨g', t', cs, fuel, p, h1, h2, h3, h4⟩ := h
 obtain rfl := Option.some.inj (hg.symm.trans h1)
 obtain rfl := Option.some.inj (hty.symm.trans h2)
 unfold Lib.TabIs
 rw [h3, ← Lib.cells_of_tab ht he hce hct h4]
theorem err_of_reads {W : World} {name nm : String} {g : Nat} {t : TypeId} {ms : Array (String × TypeId)} {d : DataW Unit} (hg : Tryz.prog.globalNamed name = some g) (hty : (Tryz.prog.globals[g]?).map (·.type) = some t)
  (ht : Tryz.prog.underlying t = some (.interface ms)) (h : Lib.VarReads Tryz.prog W name (.iface nm d)) : ∃ tp p, W.var? Tryz.prog name = some #[.iface tp p] := by
 obtain ⟨g', t', cs, fuel, p, h1, h2, h3, h4⟩ := h
 obtain rfl := Option.some.inj (hg.symm.trans h1)
 obtain rfl := Option.some.inj (hty.symm.trans h2)
 obtain ⟨_, u, v, hcs, _, _⟩ := iface_of_trod ht h4
 refine ⟨u, v, ?_⟩
 rw [h3]
 obtain ⟨l⟩ := cs
 simp only at hcs
 rw [hcs]
theorem fit_of_laid {W : World} (h : laidMetH Tryz.prog laid3 W) (hsh : W.ShapedOpen Tryz.prog) : Fit4 W := by
 rw [MakeChecks.laidMetH_plain _ _ _ (by kernel_rfl)] at h
 have r1 := Lib.laidMet.reads h (n := "math/bits.deBruijn64tab") (d := Rows.laid_math_bits_deBruijn64tab) (by simp [laid3])
 have r2 := Lib.laidMet.reads h (n := "internal/strconv.uint64pow10") (d := Rows.laid_internal_strconv_uint64pow10) (by simp [laid3])
 have r3 := Lib.laidMet.reads h (n := "strconv.ErrRange") (d := Rows.laid_strconv_ErrRange) (by simp [laid3])
 have r4 := Lib.laidMet.reads h (n := "strconv.ErrSyntax") (d := Rows.laid_strconv_ErrSyntax) (by simp [laid3])
 rw [data64] at r1
 rw [dataPow] at r2
 have gTab : Tryz.prog.globalNamed "math/bits.deBruijn64tab" = some 0 := by kernel_rfl
 have ht := tab_of_reads gTab (by kernel_rfl) Tryz.underlying160 Tryz.underlying5 (by kernel_rfl) (by kernel_rfl) r1
 have hc : TabAt 0 Lib.deBruijn64tab W := fun j hj => by
  rw [World.var?_cell gTab ht j]
  simp [List.getD, List.getElem?_eq_getElem hj]
 have gPow : ∃ g, Tryz.prog.globalNamed "internal/strconv.uint64pow10" = some g := Option.isSome_iff_exists.1 (by kernel_rfl)
 refine ⟨⟨⟨hc, cell_lt (hc 0 (by decide))⟩, ?_⟩, ⟨?_, ?_, ?_⟩⟩
 ·exact tab_of_reads (g := 5) (by kernel_rfl) (by kernel_rfl) Tryz.underlying223 Tryz.underlying55 (by kernel_rfl) (by kernel_rfl) r2
 ·exact cell_of_shapedOpen_int (P := Tryz.prog) (g := 4) (t := 3) (zero := #[.int .i64 0]) hsh (of_decide_eq_true (by kernel_rfl)) (by kernel_rfl) rfl (by kernel_rfl) (by kernel_rfl) Tryz.underlying3
 ·exact err_of_reads (g := 2) (by kernel_rfl) (by kernel_rfl) Tryz.underlying130 r4
 ·exact err_of_reads (g := 3) (by kernel_rfl) (by kernel_rfl) Tryz.underlying130 r3
theorem form_of_contract {H : Type} {enc : TypeId × Value → H} {C : Checked} {os : Os} {f : FuncId} {fn : Func} {s : ChangeSpec} {apart : Bool} {X : World → Array Value → Prop}
  (hX : ∀ (w w' : World) (args : Array Value), w.heap = w'.heap → X w args → X w' args)
  (own : ownKnob C.prog.godebug = none) (started : os.Started) (noInit : C.prog.inits.idxOf? f = none) (hfn : C.prog.funcs[f]? = some fn)
  (witness : ∃ (w : World) (tape : Tape) (i : Input), w.os = os ∧ (w.forCall tape i).Shaped C.prog ∧ i.vars = [] ∧ Input.okWide C.prog (w.forCall tape i) .any w.heap.size f i ∧
   ((s.pre enc C.prog fn [] apart (w.forCall tape i).memory i.args ∧ X (w.forCall tape i).memory i.args) ∧ sizedMet enc C.prog fn (OpenSpec.ofChange s) apart (w.forCall tape i).memory i.args) ∧ Assume.holds {} C.prog (lone (Frame.enter C.prog f i.args .normal) [] (w.forCall tape i)))
  (contract : ∀ (W : World) (base : Nat) (args : Array Value) (ds gs : List (DataW H)) (before : List MemPlace),
   (∀ (j : Nat) t v, fn.params[j]? = some t → args[j]? = some v → Value.okWide C.prog W .any base t v) →
   DataW.Whole enc C.prog fn.params.toList s.vars apart W args.toList ds gs before →
   (DataW.weightsEach C.prog (fn.params.toList ++ s.plain.varTypes C.prog) (ds ++ gs)).all (· ≤ reachBytes) = true → X W args → W.ShapedOpen C.prog →
   Calls C.prog f args W fun e W' => ∃ v, e = .returned v ∧ s.post enc C.prog fn apart true false false W args v W') :
  ReturnsInHanded {} C os f .any (fun w args => (s.pre enc C.prog fn [] apart w args ∧ X w args) ∧ sizedMet enc C.prog fn (OpenSpec.ofChange s) apart w args) (s.post enc C.prog fn apart true false false) := by
 refine returnsInHanded_of_calls own started noInit witness ?_
 intro w tape i _ shape _ ok pre _
 obtain ⟨_, _, _, fn2, hfn2, _, _, _, _, val⟩ := ok
 cases Option.some.inj (hfn2.symm.trans hfn)
 obtain ⟨⟨⟨ds, gs, before, whole, _⟩, x⟩, sized⟩ := pre
 have whole2 := DataW.Whole.of_heap (w' := w.forCall tape i) (by rfl) whole
 have call := contract (w.forCall tape i) w.heap.size i.args ds gs before val whole2 (sized.weights whole) (hX _ _ _ (by rfl) x) shape
 exact call.mono fun e W' ⟨v, he, hp⟩ => by
  subst he
  exact ChangeSpec.post_blind hp
section
variable {H : Type} {enc : TypeId × Value → H} {W : World} {base : Nat} {sp : Nat → Bool} {held : Bool}
theorem int_of_wf {x : Int} (h : (Lit.int .i64 x).wf = true) : -9223372036854775808 ≤ x ∧ x ≤ 9223372036854775807 := by
 simp [Lit.wf, IntKind.min, IntKind.max, IntKind.signed, IntKind.bits] at h
 exact h
theorem word_of_wf {x : Int} (h : (Lit.int .u64 x).wf = true) : ∃ n : Nat, x = n ∧ n < 18446744073709551616 := by
 simp [Lit.wf, IntKind.min, IntKind.max, IntKind.signed, IntKind.bits] at h
 exact ⟨x.toNat, by omega, by omega⟩
theorem cellsI1 : Tryz.prog.cellsOf 3 = 1 := by kernel_rfl
theorem cellsU1 : Tryz.prog.cellsOf 55 = 1 := by kernel_rfl
theorem cellsS4 : Tryz.prog.cellsOf 57 = 4 := by kernel_rfl
theorem cellsN10 : Tryz.prog.cellsOf 60 = 10 := by kernel_rfl
theorem bytesN : Tryz.prog.bytesOf 60 = 80 := by kernel_rfl
theorem list10 {α : Type} (l : List α) (h : l.length = 10) : ∃ a b c d e f g i j k, l = [a, b, c, d, e, f, g, i, j, k] := by
 match l, h with
 | [a, b, c, d, e, f, g, i, j, k], _ => exact ⟨a, b, c, d, e, f, g, i, j, k, rfl⟩
theorem open_node {fuel : Nat} {cs : List Value} {y : DataW H × List MemPlace} (h : DataW.trod enc Tryz.prog W base sp held fuel 60 cs = some y) : ∃ x : Nd, x.Fits ∧ cs = x.cells.toList := by
 obtain ⟨xs, k, _, _, hl, hxl, hf⟩ := DataW.trod_struct Tryz.underlying60 h
 rw [cellsN10] at hl
 obtain ⟨a, b, c, d, e, f, g, i, j, l, rfl⟩ := list10 cs hl
 have g0 := hf 0 _ rfl
 have g1 := hf 1 _ rfl
 have g2 := hf 2 _ rfl
 have g3 := hf 3 _ rfl
 have g4 := hf 4 _ rfl
 have g5 := hf 5 _ rfl
 have g6 := hf 6 _ rfl
 have hsz : xs.length = 7 := hxl
 match xs, hsz with
 | [y0, y1, y2, y3, y4, y5, y6], _ =>
  simp [cellsI1, cellsS4] at g0 g1 g2 g3 g4 g5 g6
  obtain ⟨z0, e0, _, w0⟩ := DataW.trod_int Tryz.underlying3 g0
  obtain ⟨z2, e2, _, w2⟩ := DataW.trod_int Tryz.underlying3 g2
  obtain ⟨z3, e3, _, w3⟩ := DataW.trod_int Tryz.underlying3 g3
  obtain ⟨z4, e4, _, w4⟩ := DataW.trod_int Tryz.underlying3 g4
  obtain ⟨z5, e5, _, w5⟩ := DataW.trod_int Tryz.underlying3 g5
  obtain ⟨z6, e6, _, w6⟩ := DataW.trod_int Tryz.underlying3 g6
  obtain ⟨u0, u1, u2, u3, m, _, hu0, hu1, hu2, hu3⟩ := trod_array4 Tryz.underlying57 cellsU1 g1
  obtain ⟨x0, f0, _, v0⟩ := DataW.trod_int Tryz.underlying55 hu0
  obtain ⟨x1, f1, _, v1⟩ := DataW.trod_int Tryz.underlying55 hu1
  obtain ⟨x2, f2, _, v2⟩ := DataW.trod_int Tryz.underlying55 hu2
  obtain ⟨x3, f3, _, v3⟩ := DataW.trod_int Tryz.underlying55 hu3
  simp at e0 e2 e3 e4 e5 e6 f0 f1 f2 f3
  subst e0 e2 e3 e4 e5 e6 f0 f1 f2 f3
  obtain ⟨n0, rfl, l0⟩ := word_of_wf v0
  obtain ⟨n1, rfl, l1⟩ := word_of_wf v1
  obtain ⟨n2, rfl, l2⟩ := word_of_wf v2
  obtain ⟨n3, rfl, l3⟩ := word_of_wf v3
  exact ⟨⟨z0, n0, n1, n2, n3, z2, z3, z4, z5, z6⟩, ⟨int_of_wf w0, l0, l1, l2, l3, int_of_wf w2, int_of_wf w3, int_of_wf w4, int_of_wf w5, int_of_wf w6⟩, rfl⟩
instance : Inhabited Nd := ⟨⟨0, 0, 0, 0, 0, 0, 0, 0, 0, 0⟩⟩
theorem open_nodes {a0 : Option Addr} {len cap : Nat} {d : DataW H} {ps : List MemPlace} (hd : DataW.Trod enc Tryz.prog W base sp held 22 (.slice a0 len cap) d ps)
  (hw : ∀ el spare, d = .slice el spare → (el.length + spare.length) * 80 ≤ reachBytes) : ∃ xs, Nodes W a0 len xs := by
 obtain ⟨fuel, hf⟩ := hd
 rcases Deep.open_slice Tryz.underlying22 hf with ⟨hcs, _⟩ | ⟨a, len', cap', m, n, D, Pl, hcs, _, hl, hm, hmm, hx, hel⟩
 ·simp [Value.cells] at hcs
  obtain ⟨rfl, rfl, rfl⟩ := hcs
  exact ⟨[], ⟨rfl, by omega, fun h => absurd h (by omega), fun h => absurd h (by omega), fun i x h => by simp at h⟩⟩
 ·simp [Value.cells] at hcs
  obtain ⟨rfl, rfl, rfl⟩ := hcs
  have hlm : len ≤ m := by rw [hmm]; split <;> omega
  have hr := hw _ _ (Prod.mk.inj hx).1
  simp only [List.length_map, List.length_range] at hr
  have hrb : reachBytes = 140737488351232 := by decide
  rw [hrb] at hr
  have each : ∀ i, i < len → ∃ x : Nd, x.Fits ∧ ∀ j : Nat, j < 10 → W.cell? (a.add (i * 10 + j)) = x.cells[j]? := fun i hi => by
   obtain ⟨cs', h1, h2⟩ := hel i (by omega)
   rw [cellsN10] at h1
   obtain ⟨x, hxf, rfl⟩ := open_node h2
   obtain ⟨_, _, hcell⟩ := World.cells?_some h1
   refine ⟨x, hxf, fun j hj => ?_⟩
   have := hcell j hj
   rw [Deep.add_add] at this
   rw [this]
   simp
  obtain ⟨X, hX⟩ := Deep.choose_lt each
  refine ⟨(List.range len).map X, ⟨by simp, by omega, ?_, ?_, ?_⟩⟩
  ·intro h1
   obtain ⟨b, off, spot⟩ := a
   have h0 := (hX 0 (by omega)).2 0 (by omega)
   have hspot : spot = none := by simpa [Addr.add] using World.cell?_spot (h0.trans rfl)
   exact ⟨b, off, by rw [hspot]⟩
  ·intro h1 b o e
   obtain rfl : a = ⟨b, o, none⟩ := Option.some.inj e
   refine ⟨?_, fun i x hx j v hv => ?_⟩
   ·have h0 := (hX 0 (by omega)).2 0 (by omega)
    rw [add_plain] at h0
    exact World.lt_of_cell (h0.trans rfl)
   ·have hi : i < len := by
     have := (List.getElem?_eq_some_iff.1 hx).1
     simpa using this
    have hx' : X i = x := by simpa [hi] using hx
    have hj : j < 10 := by
     have := (Array.getElem?_eq_some_iff.1 hv).1
     simpa [Nd.cells] using this
    have := (hX i hi).2 j hj
    rw [add_plain, hx', hv] at this
    rw [Nat.add_assoc]
    exact this
  ·intro i x hx
   have hi : i < len := by
    have := (List.getElem?_eq_some_iff.1 hx).1
    simpa using this
   have hx' : X i = x := by simpa [hi] using hx
   rw [← hx']
   exact (hX i hi).1
end
end Go.Proofs.YtgllmhheahlpjaaGreatDoor
namespace Go.Proofs.YtgllmhheahlpjaaGreatDoor
open Go.ChangeShapes Go.WideShapes Go.ChangeAt Go.RowKit
section
variable {H : Type} {enc : TypeId × Value → H} {W : World} {base b0 : Nat} {sp : Nat → Bool} {held : Bool} {r : Reach}
theorem byte_of_wfM {x : Int} (h : (Lit.int .u8 x).wf = true) : ∃ n : Nat, x = n ∧ n < 256 := by
 simp [Lit.wf, IntKind.min, IntKind.max, IntKind.signed, IntKind.bits] at h
 exact ⟨x.toNat, by omega, by omega⟩
theorem open_byteM {v : Value} {d : DataW H} {ps : List MemPlace} (hval : Value.okWide Tryz.prog W r b0 5 v) (hd : DataW.Trod enc Tryz.prog W base sp held 5 v d ps) :
  ∃ n : Nat, v = .int .u8 n ∧ d = .lit (.int .u8 n) ∧ ps = [] ∧ n < 256 := by
 obtain ⟨x, rfl, rfl, rfl, wx⟩ := open_int Tryz.underlying5 hval hd
 obtain ⟨n, rfl, hn⟩ := byte_of_wfM wx
 exact ⟨n, rfl, rfl, rfl, hn⟩
theorem shut_byteM {n : Nat} (h : n < 256) : DataW.Trod enc Tryz.prog W base sp held 5 (.int .u8 n) (.lit (.int .u8 n)) [] := by
 refine shut_int Tryz.underlying5 ?_
 simp [Lit.wf, IntKind.min, IntKind.max, IntKind.signed, IntKind.bits]
 omega
end
end Go.Proofs.YtgllmhheahlpjaaGreatDoor
namespace Go.Proofs.YtgllmhheahlpjaaGreatDoor
open Go.RowKit Go.Lib
def IsFrom (f : Nat → Bool) (p : Nat) (r : Int) : Prop := (r = -1 ∧ ∀ k, p ≤ k → f k = false) ∨ ∃ k : Nat, r = k ∧ p ≤ k ∧ f k = true ∧ ∀ j, p ≤ j → j < k → f j = false
def IsTo (f : Nat → Bool) (p : Int) (r : Int) : Prop := (r = -1 ∧ ∀ k : Nat, (k : Int) ≤ p → f k = false) ∨ ∃ k : Nat, r = k ∧ (k : Int) ≤ p ∧ f k = true ∧ ∀ j : Nat, k < j → (j : Int) ≤ p → f j = false
theorem wd_put (f : Nat → Bool) (b : Nat) : wd f (b / 64) ||| 2 ^ (b % 64) = wd (fun i => f i || i == b) (b / 64) := by
 apply wd_ext
 ·exact Nat.or_lt_two_pow (n := 64) (wd_lt f _) (Nat.pow_lt_pow_right (by decide) (by omega))
 ·intro i hi
  rw [Nat.testBit_or, wd_bit f _ i hi, Nat.testBit_two_pow]
  congr 1
  by_cases e : i = b % 64
  ·subst e
   have : 64 * (b / 64) + b % 64 = b := by omega
   simp [this]
  ·have e2 : ¬ 64 * (b / 64) + i = b := by omega
   have e3 : ¬ b % 64 = i := fun h => e h.symm
   simp [e2, e3]
theorem put_bits (f : Nat → Bool) (b : Nat) : bits .or .u64 (wd f (b / 64) : Int) (IntKind.u64.wrap (2 ^ (b % 64))) = (wd (fun i => f i || i == b) (b / 64) : Int) := by
 have h2 : (2 : Nat) ^ (b % 64) < 18446744073709551616 := (Nat.pow_lt_pow_right (a := 2) (m := b % 64) (n := 64) (by decide) (by omega))
 rw [u64_wrap (2 ^ (b % 64)) h2 _ (by simp), bits_or_u64_nat _ _ (wd_lt f _) h2, wd_put]
theorem has_bits (f : Nat → Bool) (b : Nat) : bits .and .u64 ((wd f (b / 64) : Int) / 2 ^ (b % 64)) 1 = ((f b).toNat : Int) := by
 have e : ((wd f (b / 64) : Int) / 2 ^ (b % 64)) = ((wd f (b / 64) / 2 ^ (b % 64) : Nat) : Int) := by simp
 have hlt := wd_lt f (b / 64)
 have hle : wd f (b / 64) / 2 ^ (b % 64) ≤ wd f (b / 64) := Nat.div_le_self _ _
 rw [u64_and (wd f (b / 64) / 2 ^ (b % 64)) 1 (by omega) (by omega) _ 1 e rfl, and1, wd_has f _ _ (by omega), show 64 * (b / 64) + b % 64 = b by omega]
theorem or_bits (f g : Nat → Bool) (k : Nat) : bits .or .u64 (wd f k : Int) (wd g k : Int) = (wd (fun i => f i || g i) k : Int) := by
 rw [bits_or_u64_nat _ _ (wd_lt f _) (wd_lt g _), wd_or]
theorem from_bits (f : Nat → Bool) (p : Nat) : bits .and .u64 (wd f (p / 64) : Int) (IntKind.u64.wrap (18446744073709551615 * 2 ^ (p % 64))) = (wd (fun i => f i && decide (p ≤ i)) (p / 64) : Int) := by
 have hr : p % 64 < 64 := Nat.mod_lt _ (by omega)
 have h2 : (2 : Nat) ^ (p % 64) ≤ 18446744073709551615 := by
  have := Nat.pow_lt_pow_right (a := 2) (m := p % 64) (n := 64) (by decide) hr
  omega
 have hp : 0 < (2 : Nat) ^ (p % 64) := Nat.pow_pos (by decide)
 have hm : IntKind.u64.wrap (18446744073709551615 * 2 ^ (p % 64)) = ((18446744073709551616 - 2 ^ (p % 64) : Nat) : Int) := by
  rw [IntKind.wrap_u64]
  have e : (18446744073709551615 * 2 ^ (p % 64) : Int) = (((2 : Nat) ^ (p % 64) : Nat) : Int) * 18446744073709551616 - (((2 : Nat) ^ (p % 64) : Nat) : Int) := by
   rw [show ((2 : Int) ^ (p % 64)) = (((2 : Nat) ^ (p % 64) : Nat) : Int) by simp]; omega
  rw [e]
  omega
 rw [hm, u64_and _ (18446744073709551616 - 2 ^ (p % 64)) (wd_lt f _) (by omega) _ _ rfl rfl]
 refine congrArg (fun x : Nat => (x : Int)) ?_
 apply wd_ext
 ·exact Nat.lt_of_le_of_lt Nat.and_le_left (wd_lt f _)
 ·intro i hi
  rw [Nat.testBit_and, wd_bit f _ i hi]
  congr 1
  have e : 18446744073709551616 - 2 ^ (p % 64) = 2 ^ 64 - ((2 ^ (p % 64) - 1) + 1) := by omega
  rw [e, Nat.testBit_two_pow_sub_succ (by omega), Nat.testBit_two_pow_sub_one]
  by_cases h : i < p % 64
  ·have : ¬ p ≤ 64 * (p / 64) + i := by omega
   simp [h, this]
  ·have : p ≤ 64 * (p / 64) + i := by omega
   simp [h, this, hi]
theorem to_bits (f : Nat → Bool) (p : Nat) : bits .and .u64 (wd f (p / 64) : Int) (18446744073709551615 / 2 ^ (63 - p % 64)) = (wd (fun i => f i && decide (i ≤ p)) (p / 64) : Int) := by
 have hr : p % 64 < 64 := Nat.mod_lt _ (by omega)
 have hm : (18446744073709551615 / 2 ^ (63 - p % 64) : Int) = ((2 ^ (p % 64 + 1) - 1 : Nat) : Int) := by
  have e1 : (18446744073709551615 / 2 ^ (63 - p % 64) : Int) = ((18446744073709551615 / 2 ^ (63 - p % 64) : Nat) : Int) := by simp
  rw [e1]
  refine congrArg (fun x : Nat => (x : Int)) ?_
  apply Nat.eq_of_testBit_eq
  intro i
  rw [Nat.testBit_div_two_pow, show 18446744073709551615 = 2 ^ 64 - 1 by decide, Nat.testBit_two_pow_sub_one, Nat.testBit_two_pow_sub_one, decide_eq_decide]
  omega
 have hlt : (2 : Nat) ^ (p % 64 + 1) - 1 < 18446744073709551616 := by
  have := Nat.pow_le_pow_right (n := 2) (i := p % 64 + 1) (j := 64) (by decide) (by omega)
  omega
 rw [hm, u64_and _ (2 ^ (p % 64 + 1) - 1) (wd_lt f _) hlt _ _ rfl rfl]
 refine congrArg (fun x : Nat => (x : Int)) ?_
 apply wd_ext
 ·exact Nat.lt_of_le_of_lt Nat.and_le_left (wd_lt f _)
 ·intro i hi
  rw [Nat.testBit_and, wd_bit f _ i hi, Nat.testBit_two_pow_sub_one]
  congr 1
  rw [decide_eq_decide]
  omega
theorem wd_zero {f : Nat → Bool} {k : Nat} (h : wd f k = 0) : ∀ i, 64 * k ≤ i → i < 64 * (k + 1) → f i = false := fun i h1 h2 => by
 have := wd_bit f k (i - 64 * k) (by omega)
 rw [h, Nat.zero_testBit, show 64 * k + (i - 64 * k) = i by omega] at this
 exact this.symm
theorem wd_first {f : Nat → Bool} {k : Nat} (h : wd f k ≠ 0) : Lib.ctz 64 (wd f k) < 64 ∧ f (64 * k + Lib.ctz 64 (wd f k)) = true ∧ ∀ i, 64 * k ≤ i → i < 64 * k + Lib.ctz 64 (wd f k) → f i = false := by
 obtain ⟨h1, h2, h3⟩ := ctz_bit (wd_lt f k) h
 refine ⟨h1, by rw [← wd_bit f k _ h1]; exact h2, fun i h4 h5 => ?_⟩
 have := wd_bit f k (i - 64 * k) (by omega)
 rw [h3 _ (by omega), show 64 * k + (i - 64 * k) = i by omega] at this
 exact this.symm
theorem wd_last {f : Nat → Bool} {k : Nat} (h : wd f k ≠ 0) : ∃ r, Lib.bitLen (wd f k) = r + 1 ∧ r < 64 ∧ f (64 * k + r) = true ∧ ∀ i, 64 * k + r < i → i < 64 * (k + 1) → f i = false := by
 have hlt := wd_lt f k
 obtain ⟨h1, h2, h3⟩ := bitLenAux_bounds 64 (wd f k) hlt h
 have e : Lib.bitLen (wd f k) = bitLenAux 64 (wd f k) := rfl
 rw [← e] at h1 h2 h3
 obtain ⟨r, hr⟩ : ∃ r, Lib.bitLen (wd f k) = r + 1 := ⟨Lib.bitLen (wd f k) - 1, by omega⟩
 rw [hr, Nat.add_sub_cancel] at h2
 rw [hr] at h3
 have hr64 : r < 64 := by
  rcases Nat.lt_or_ge r 64 with q | q
  ·exact q
  ·have := Nat.pow_le_pow_right (n := 2) (i := 64) (j := r) (by decide) q
   omega
 have hbit : (wd f k).testBit r = true := by
  rw [Nat.testBit_eq_decide_div_mod_eq, decide_eq_true_iff]
  have hq : wd f k / 2 ^ r = 1 := by
   have a1 : 1 ≤ wd f k / 2 ^ r := (Nat.le_div_iff_mul_le (Nat.pow_pos (by decide))).2 (by omega)
   have a2 : wd f k / 2 ^ r < 2 := (Nat.div_lt_iff_lt_mul (Nat.pow_pos (by decide))).2 (by rw [Nat.pow_succ] at h3; omega)
   omega
  rw [hq]
 refine ⟨r, hr, hr64, by rw [← wd_bit f k r hr64]; exact hbit, fun i h4 h5 => ?_⟩
 have := wd_bit f k (i - 64 * k) (by omega)
 rw [show 64 * k + (i - 64 * k) = i by omega] at this
 rw [← this]
 exact Nat.testBit_lt_two_pow (Nat.lt_of_lt_of_le h3 (Nat.pow_le_pow_right (by decide) (by omega)))
theorem from_hit {f : Nat → Bool} {p k : Nat} (hb : ∀ i, p ≤ i → i < 64 * k → f i = false) (h : wd (fun i => f i && decide (p ≤ i)) k ≠ 0) : IsFrom f p (64 * (k : Int) + (Lib.ctz 64 (wd (fun i => f i && decide (p ≤ i)) k) : Int)) := by
 obtain ⟨h1, h2, h3⟩ := wd_first h
 simp only [Bool.and_eq_true, decide_eq_true_iff] at h2
 refine .inr ⟨64 * k + Lib.ctz 64 (wd (fun i => f i && decide (p ≤ i)) k), by omega, h2.2, h2.1, fun j j1 j2 => ?_⟩
 rcases Nat.lt_or_ge j (64 * k) with q | q
 ·exact hb j j1 q
 ·have := h3 j q j2
  simpa [j1] using this
theorem from_miss {f : Nat → Bool} {p k : Nat} (hb : ∀ i, p ≤ i → i < 64 * k → f i = false) (h : wd (fun i => f i && decide (p ≤ i)) k = 0) : ∀ i, p ≤ i → i < 64 * (k + 1) → f i = false := fun i h1 h2 => by
 rcases Nat.lt_or_ge i (64 * k) with q | q
 ·exact hb i h1 q
 ·have := wd_zero h i q h2
  simpa [h1] using this
theorem wd_above {f : Nat → Bool} {p k : Nat} (h : p ≤ 64 * k) : wd (fun i => f i && decide (p ≤ i)) k = wd f k := pack_congr fun i hi => by
 have : p ≤ 64 * k + i := by omega
 simp [this]
theorem to_hit {f : Nat → Bool} {p k : Nat} (hb : ∀ i, 64 * (k + 1) ≤ i → i ≤ p → f i = false) (h : wd (fun i => f i && decide (i ≤ p)) k ≠ 0) : IsTo f p (64 * (k : Int) + (Lib.bitLen (wd (fun i => f i && decide (i ≤ p)) k) : Int) - 1) := by
 obtain ⟨r, h0, h1, h2, h3⟩ := wd_last h
 simp only [Bool.and_eq_true, decide_eq_true_iff] at h2
 refine .inr ⟨64 * k + r, by omega, by omega, h2.1, fun j j1 j2 => ?_⟩
 rcases Nat.lt_or_ge j (64 * (k + 1)) with q | q
 ·have := h3 j j1 q
  have j3 : j ≤ p := by omega
  simpa [j3] using this
 ·exact hb j q (by omega)
theorem to_miss {f : Nat → Bool} {p k : Nat} (hb : ∀ i, 64 * (k + 1) ≤ i → i ≤ p → f i = false) (h : wd (fun i => f i && decide (i ≤ p)) k = 0) : ∀ i, 64 * k ≤ i → i ≤ p → f i = false := fun i h1 h2 => by
 rcases Nat.lt_or_ge i (64 * (k + 1)) with q | q
 ·have := wd_zero h i h1 q
  simpa [h2] using this
 ·exact hb i q h2
theorem wd_below {f : Nat → Bool} {p k : Nat} (h : 64 * (k + 1) ≤ p + 1) : wd (fun i => f i && decide (i ≤ p)) k = wd f k := pack_congr fun i hi => by
 have : 64 * k + i ≤ p := by omega
 simp [this]
end Go.Proofs.YtgllmhheahlpjaaGreatDoor
namespace Go.Proofs.YtgllmhheahlpjaaGreatDoor
open Go.RowKit
abbrev cZ : Array Value := #[.complex .f64 0 0, .complex .f64 0 0, .complex .f64 0 0, .complex .f64 0 0, .complex .f64 0 0, .complex .f64 0 0, .complex .f64 0 0, .complex .f64 0 0, .complex .f64 0 0, .complex .f64 0 0]
abbrev nA (k a b c d e f g h i : Int) : Array Value := #[.int .i64 k, .int .u64 a, .int .u64 b, .int .u64 c, .int .u64 d, .int .i64 e, .int .i64 f, .int .i64 g, .int .i64 h, .int .i64 i]
theorem tk {P : Program} {ops : Array Oper} {Q : Exit → Act → World → Prop} {md : Region.Mode} {S : World → Prop} {i : Nat} {oi : Oper} {v : Value} {fuel : Nat} {listed : Array Bool} {a : Act} {w : World} (hi : ops[i]? = some oi)
  (hy : ∀ w, S w → (execOp a.eval oi).run P w = .ok (.value v) w) (h : wpAnyH P md ops Q S fuel (listed.setIfInBounds i true) (a.put oi.dst v) w)
  (hs : Region.noSelect ops = true := by kernel_rfl) (hf : Region.free md ops listed i = true := by kernel_rfl) (hr : (Region.ready md ops listed).contains i = true := by kernel_rfl)
  (hW : Region.wanted oi (yielded ops a.tmps) = true := by kernel_rfl) (hQ : ∀ c a w, Q (.panic c) (a.put oi.dst v) w → Q (.panic c) a w := by exact fun _ _ _ h => h) (hS : S w := by assumption) : wpAnyH P md ops Q S (fuel + 1) listed a w :=
 wpAnyH_take hi hs hf hr hQ (Or.inl ⟨hW, hy⟩) hS h
theorem tkS {α : Type} : (∀ (xs : List α) (i : Nat) (h : i < xs.toArray.size), xs.toArray[i] = xs[i]'(by simpa using h)) ∧ (∀ (a : α) (l : List α) (i : Nat) (h : i + 1 < (a :: l).length), (a :: l)[i + 1] = l[i]'(Nat.lt_of_succ_lt_succ h)) ∧ (∀ (a : α) (l : List α) (h : 0 < (a :: l).length), (a :: l)[0] = a) ∧ (∀ (xs : List α) (i : Nat) (a : α), xs.toArray.setIfInBounds i a = (xs.set i a).toArray) ∧ (∀ (a b : α) (l : List α), (a :: l).set 0 b = b :: l) ∧ (∀ (a b : α) (l : List α) (i : Nat), (a :: l).set (i + 1) b = a :: l.set i b) := by simp
end Go.Proofs.YtgllmhheahlpjaaGreatDoor
namespace Go.Proofs.YtgllmhheahlpjaaGreatDoor
open Go.RowKit Go.Lib
def pcs (f : Nat → Bool) (n : Nat) : Array Value := ((List.range n).map fun k => Value.int .u64 (wd f k)).toArray
structure PRow (w : World) (b n : Nat) (f : Nat → Bool) : Prop where
 heap : w.heap[b]? = some (.cells (pcs f n) 55 (0, 0))
theorem pcs_size (f : Nat → Bool) (n : Nat) : (pcs f n).size = n := by simp [pcs]
theorem pcs_at (f : Nat → Bool) (n j : Nat) (h : j < n) : (pcs f n)[j]? = some (.int .u64 (wd f j)) := by simp [pcs, h]
theorem pcs_set {f g : Nat → Bool} {n j : Nat} (h : ∀ k, k < n → k ≠ j → wd g k = wd f k) : (pcs f n).setIfInBounds j (.int .u64 (wd g j)) = pcs g n := by
 apply Array.ext_getElem?
 intro i
 rw [Array.getElem?_setIfInBounds]
 by_cases hi : i < n
 ·rw [pcs_at _ n i hi, pcs_at _ n i hi, pcs_size]
  by_cases e : j = i
  ·subst e; simp [hi]
  ·rw [if_neg e, h i hi (fun q => e q.symm)]
 ·have h1 : (pcs f n)[i]? = none := Array.getElem?_eq_none (by rw [pcs_size]; omega)
  have h2 : (pcs g n)[i]? = none := Array.getElem?_eq_none (by rw [pcs_size]; omega)
  rw [h1, h2, pcs_size]
  split <;> first | rfl | (split <;> first | rfl | omega)
section
variable {w : World} {b n : Nat} {f : Nat → Bool}
theorem PRow.lt (h : PRow w b n f) : b < w.heap.size := (Array.getElem?_eq_some_iff.1 h.heap).1
theorem PRow.cell (h : PRow w b n f) (j : Nat) (hj : j < n) : w.cell? ⟨b, j, none⟩ = some (.int .u64 (wd f j)) := by simp [World.cell?, h.heap, pcs_at f n j hj]
theorem PRow.fz (h : PRow w b n f) (j : Nat) : w.frozen? ⟨b, j, none⟩ = false := by simp [World.frozen?, h.heap]
theorem PRow.below {B : Nat} {w' : World} (h : PRow w b n f) (hB : Below B w w') (hb : b < B) : PRow w' b n f := ⟨(hB.block b hb).trans h.heap⟩
theorem PRow.alloc (h : PRow w b n f) (o : Obj) : PRow (w.alloc o) b n f := h.below (B := w.heap.size) ((Below.refl _ w).alloc (Nat.le_refl _) o) h.lt
theorem PRow.drew (h : PRow w b n f) : PRow w.drew b n f := ⟨h.heap⟩
theorem PRow.set (h : PRow w b n f) (j : Nat) {g : Nat → Bool} (hg : ∀ k, k < n → k ≠ j → wd g k = wd f k) : PRow (w.setCell ⟨b, j, none⟩ (.int .u64 (wd g j))) b n g := ⟨by rw [heap_setCell_same _ b j _ _ _ h.heap, pcs_set hg]⟩
theorem PRow.other (h : PRow w b n f) {p : Addr} (hp : b ≠ p.block) (u : Value) : PRow (w.setCell p u) b n f := ⟨(Below.heap_setCell w p u b hp).trans h.heap⟩
theorem PRow.put (h : PRow w b n f) (p : Nat) : PRow (w.setCell ⟨b, p / 64, none⟩ (.int .u64 (wd (fun i => f i || i == p) (p / 64)))) b n (fun i => f i || i == p) := h.set (p / 64) fun k _ hk => wd_with_other f p k hk
end
structure Keeps (S : Nat → Prop) (w w' : World) : Prop where
 os : w'.os = w.os
 tape : w'.tape = w.tape
 output : w'.output = w.output
 size : w.heap.size ≤ w'.heap.size
 block : ∀ i, i < w.heap.size → ¬ S i → w'.heap[i]? = w.heap[i]?
section
variable {S S' : Nat → Prop} {a b c : World}
theorem Keeps.refl (S : Nat → Prop) (w : World) : Keeps S w w := ⟨rfl, rfl, rfl, Nat.le_refl _, fun _ _ _ => rfl⟩
theorem Keeps.trans (h : Keeps S a b) (k : Keeps S b c) : Keeps S a c := ⟨k.os.trans h.os, k.tape.trans h.tape, k.output.trans h.output, Nat.le_trans h.size k.size, fun i hi hs => (k.block i (Nat.lt_of_lt_of_le hi h.size) hs).trans (h.block i hi hs)⟩
theorem Keeps.mono (h : Keeps S a b) (hs : ∀ i, i < a.heap.size → S i → S' i) : Keeps S' a b := ⟨h.os, h.tape, h.output, h.size, fun i hi q => h.block i hi (fun r => q (hs i hi r))⟩
theorem Keeps.drew (h : Keeps S a b) : Keeps S a b.drew := ⟨h.os, h.tape, h.output, h.size, h.block⟩
theorem Keeps.alloc (h : Keeps S a b) (o : Obj) : Keeps S a (b.alloc o) := h.trans ⟨rfl, rfl, rfl, by simp, fun i hi _ => Below.heap_alloc _ _ _ hi⟩
theorem Keeps.setCell (h : Keeps S a b) {p : Addr} (hp : S p.block) (u : Value) : Keeps S a (b.setCell p u) :=
 h.trans ⟨rfl, rfl, rfl, by simp [World.setCell], fun i hi hs => Below.heap_setCell _ _ _ _ (fun e => hs (e ▸ hp))⟩
theorem Keeps.grown (h : Keeps S a b) {row : Option Nat} (hg : b.grownBy c row) (hr : ∀ k, row = some k → S k) : Keeps S a c :=
 h.trans ⟨hg.os, hg.tape, hg.output, hg.size, fun i hi hs => hg.block i hi (fun e => hs (hr i e.symm))⟩
theorem Keeps.below {B : Nat} (h : Keeps S a b) (hB : B ≤ a.heap.size) (hs : ∀ i, S i → B ≤ i) : Below B a b := ⟨h.os, h.tape, h.output, h.size, fun i hi => h.block i (by omega) (fun q => by have := hs i q; omega)⟩
theorem Keeps.of_below (h : Below a.heap.size a b) : Keeps S a b := ⟨h.os, h.tape, h.output, h.size, fun i hi _ => h.block i hi⟩
theorem PRow.keeps {b' n : Nat} {f : Nat → Bool} (h : PRow a b' n f) (k : Keeps S a b) (hs : ¬ S b') : PRow b b' n f := ⟨(k.block b' h.lt hs).trans h.heap⟩
end
theorem PRow.congr {w : World} {b n : Nat} {f g : Nat → Bool} (h : PRow w b n f) (e : ∀ k, k < n → wd g k = wd f k) : PRow w b n g := by
 have : pcs g n = pcs f n := by
  unfold pcs
  rw [List.map_congr_left (g := fun k => Value.int .u64 (wd f k)) (fun k hk => by rw [e k (List.mem_range.1 hk)])]
 exact ⟨by rw [this]; exact h.heap⟩
theorem PRow.new (w : World) (n : Nat) (f : Nat → Bool) : PRow (w.alloc (.cells (pcs f n) 55)) w.heap.size n f := ⟨by show (w.heap.push _)[w.heap.size]? = _; simp⟩
theorem infoU : (Tryz.prog.info? 55).map (fun i => (i.zero, i.size, i.bytes)) = some (some (.int .u64 0), 1, 8) := by kernel_rfl
theorem wd_none (k : Nat) : wd (fun _ => false) k = 0 := (wd_ext (x := 0) (by omega) fun i hi => by rw [Nat.zero_testBit]).symm
theorem mk_pcs (n : Nat) (hn : n ≤ 16777216) (w : World) : (Instr.makeSlice 82 (.int .i64 n) (.int .i64 n)).run Tryz.prog w = .ok (.slice (some ⟨w.heap.size, 0, none⟩) n n) (w.alloc (.cells (pcs (fun _ => false) n) 55)) := by
 obtain ⟨i, hi, hz0, hz1, hz2⟩ := info_parts infoU
 have h := run_makeSlice (P := Tryz.prog) w 82 55 i (.int .u64 0) Tryz.underlying82 hi hz0 .i64 .i64 n n (by omega) (by omega) (by rw [hz1]; omega) (by rw [hz2]; omega) (by omega)
 rw [h]
 have e : madeCells (Value.int .u64 0).cells ((n : Int).toNat * i.size) = pcs (fun _ => false) n := by
  rw [hz1]
  apply Array.ext
  ·simp [madeCells, pcs, Value.cells]
  ·intro i h1 h2
   simp [madeCells, pcs, Value.cells, Nat.mod_one, wd_none]
 rw [e]
 simp
theorem newplaces_c (n : Nat) (hn : n ≤ 999999999) (w : World) :
  Calls Tryz.prog 79 #[.int .i64 n] w fun e w' => e = .returned (.slice (some ⟨w.heap.size, 0, none⟩) (n / 64 + 1) (n / 64 + 1)) ∧ w' = w.alloc (.cells (pcs (fun _ => false) (n / 64 + 1)) 55) := by
 have hm := mk_pcs (n / 64 + 1) (by omega) w
 obtain ⟨m, hm0⟩ : ∃ m, m = n / 64 + 1 := ⟨_, rfl⟩
 rw [← hm0] at hm ⊢
 have e2 : (n : Int) / 64 + 1 = (m : Int) := by omega
 have HM := Lib.hid hm0
 clear hm0
 go_enter Tryz.func79, Tryz.ntmps79
 go_wp2
 go_ret
 exact ⟨rfl, rfl⟩
theorem has_m (b n cap p : Nat) (f : Nat → Bool) (hn : p / 64 < n) (hp : p ≤ 999999999) (w : World) (h : PRow w b n f) :
  Calls Tryz.prog 71 #[.slice (some ⟨b, 0, none⟩) n cap, .int .i64 p] w fun e w' => e = .returned (.bool (f p)) ∧ w' = w := by
 have hc := h.cell (p / 64) hn
 have hb := has_bits f p
 obtain ⟨q, hq⟩ : ∃ q, q = p / 64 := ⟨_, rfl⟩
 obtain ⟨r, hr⟩ : ∃ r, r = p % 64 := ⟨_, rfl⟩
 have hr64 : r < 64 := by omega
 rw [← hq] at hc hb hn
 rw [← hr] at hb
 have e1 : (p : Int) / 64 = (q : Int) := by omega
 have e2 : (p : Int) % 64 = (r : Int) := by omega
 have HQ := Lib.hid hq; have HR := Lib.hid hr
 clear hq hr
 obtain ⟨v, hv⟩ : ∃ v, v = f p := ⟨_, rfl⟩
 have HE : (bits BinOp.and IntKind.u64 ((wd f q : Int) / 2 ^ r) 1 == 1) = v := by
  rw [hb, hv]
  cases f p <;> rfl
 rw [← hv]
 clear hb hv
 go_enter Tryz.func71, Tryz.ntmps71
 go_wp2
 go_ret
 exact ⟨rfl, rfl⟩
theorem put_m (b n cap p : Nat) (f : Nat → Bool) (hn : p / 64 < n) (hp : p ≤ 999999999) (w : World) (h : PRow w b n f) :
  Calls Tryz.prog 154 #[.slice (some ⟨b, 0, none⟩) n cap, .int .i64 p] w fun e w' => e = .returned (.tuple #[]) ∧ w' = (w.setCell ⟨b, p / 64, none⟩ (.int .u64 (wd (fun i => f i || i == p) (p / 64)))).drew := by
 have hc := h.cell (p / 64) hn
 have hz := h.fz (p / 64)
 have hb := put_bits f p
 obtain ⟨x, hx⟩ : ∃ x, x = wd (fun i => f i || i == p) (p / 64) := ⟨_, rfl⟩
 rw [← hx] at hb ⊢
 obtain ⟨q, hq⟩ : ∃ q, q = p / 64 := ⟨_, rfl⟩
 obtain ⟨r, hr⟩ : ∃ r, r = p % 64 := ⟨_, rfl⟩
 have hr64 : r < 64 := by omega
 rw [← hq] at hc hz hb hn ⊢
 rw [← hr] at hb
 have e1 : (p : Int) / 64 = (q : Int) := by omega
 have e2 : (p : Int) % 64 = (r : Int) := by omega
 have HQ := Lib.hid hq; have HR := Lib.hid hr; have HX := Lib.hid hx
 clear hq hr hx
 go_enter Tryz.func154, Tryz.ntmps154
 go_wp2_with fail
 go_region
 go_wp2
 go_end0
 exact ⟨rfl, rfl⟩
end Go.Proofs.YtgllmhheahlpjaaGreatDoor
namespace Go.Proofs.YtgllmhheahlpjaaGreatDoor
open Go.RowKit
theorem join_m (b cap b' cap' n : Nat) (f g : Nat → Bool) (hn : n ≤ 16777216) (hne : b ≠ b') (w : World) (h : PRow w b n f) (h' : PRow w b' n g) :
  Calls Tryz.prog 139 #[.slice (some ⟨b, 0, none⟩) n cap, .slice (some ⟨b', 0, none⟩) n cap'] w fun e w' => e = .returned (.tuple #[]) ∧ PRow w' b n (fun i => f i || g i) ∧ Keeps (fun i => i = b) w w' := by
 have hlim : ∀ k, n ≤ k → True := fun _ _ => trivial
 go_enter Tryz.func139, Tryz.ntmps139
 go_wp2
 go_loopw [8] (fun i wr => ∃ k : Nat, k ≤ n ∧ i = .int .i64 k ∧ PRow wr b n (fun i => f i || (g i && decide (i < 64 * k))) ∧ PRow wr b' n g ∧ Keeps (fun i => i = b) w wr) (fun i _ => n - (RowKit.intOf i).toNat)
 case atStart =>
  refine ⟨0, by omega, rfl, ?_, h', .refl _ _⟩
  have e : (fun i => f i || (g i && decide (i < 64 * 0))) = f := by funext i; simp
  rw [e]; exact h
 case round =>
  obtain ⟨k, hk, rfl, r1, r2, rK⟩ := hrel
  by_cases hlt : k < n
  ·have c1 := r1.cell k hlt
   have z1 := r1.fz k
   have c2 := r2.cell k hlt
   have hor := or_bits (fun i => f i || (g i && decide (i < 64 * k))) g k
   have hset := r1.set k (g := fun i => f i || (g i && decide (i < 64 * (k + 1)))) (fun j hj hjk => pack_congr fun i hi => by
    have : (64 * j + i < 64 * (k + 1)) ↔ (64 * j + i < 64 * k) := by omega
    simp [this])
   have hw : wd (fun i => (f i || (g i && decide (i < 64 * k))) || g i) k = wd (fun i => f i || (g i && decide (i < 64 * (k + 1)))) k := pack_congr fun i hi => by
    have h1 : 64 * k + i < 64 * (k + 1) := by omega
    have h2 : ¬ 64 * k + i < 64 * k := by omega
    simp [h1, h2]
   rw [hw] at hor
   clear hw
   obtain ⟨x, hx⟩ : ∃ x, x = wd (fun i => f i || (g i && decide (i < 64 * (k + 1)))) k := ⟨_, rfl⟩
   rw [← hx] at hor hset
   have HX := Lib.hid hx
   have HS := Lib.hid hset
   clear hx hset
   generalize wd (fun i => f i || (g i && decide (i < 64 * k))) k = y at *
   generalize wd g k = z at *
   go_wp2
   go_roundw
   case rel =>
    exact ⟨k + 1, by omega, by simp, HS.out, r2.other (p := ⟨b, k, none⟩) (fun e => hne e.symm) _, rK.setCell (p := ⟨b, k, none⟩) rfl _⟩
   case measure => (simp [RowKit.intOf]) <;> omega
  ·obtain rfl : k = n := by omega
   have hfin : PRow wr b k (fun i => f i || g i) := r1.congr fun j hj => pack_congr fun i hi => by
    have : 64 * j + i < 64 * k := by omega
    simp [this]
   go_wp2
   go_end0
   exact ⟨rfl, hfin, rK⟩
theorem from_m (b cap n p : Nat) (f : Nat → Bool) (hn : n ≤ 16777216) (hp : p ≤ 1000000000) (hf : ∀ i, 64 * n ≤ i → f i = false) (w : World) (hT : TabAt 0 Lib.deBruijn64tab w) (h : PRow w b n f) :
  Calls Tryz.prog 54 #[.slice (some ⟨b, 0, none⟩) n cap, .int .i64 p] w fun e w' => (∃ r, e = .returned (.int .i64 r) ∧ IsFrom f p r) ∧ w' = w := by
 have h00 : ∀ i, p ≤ i → i < 64 * (p / 64) → f i = false := fun i h1 h2 => by omega
 have H0 := Lib.hid h00
 have HF := Lib.hid hf
 clear h00 hf
 obtain ⟨q, hq⟩ : ∃ q, q = p / 64 := ⟨_, rfl⟩
 obtain ⟨r, hr⟩ : ∃ r, r = p % 64 := ⟨_, rfl⟩
 have hr64 : r < 64 := by omega
 have hq64 : q ≤ 15625000 := by omega
 have e1 : (p : Int) / 64 = (q : Int) := by omega
 have e2 : (p : Int) % 64 = (r : Int) := by omega
 have hpq : 64 * q ≤ p ∧ p < 64 * (q + 1) := by omega
 have HQ := Lib.hid hq; have HR := Lib.hid hr
 clear hq hr
 go_enter Tryz.func54, Tryz.ntmps54
 go_wp2
 go_loopw [5] (fun i wr => ∃ k : Nat, k ≤ 16777216 ∧ q ≤ k ∧ i = .int .i64 k ∧ (∀ i, p ≤ i → i < 64 * k → f i = false) ∧ wr = w) (fun i _ => 16777217 - (RowKit.intOf i).toNat)
 case atStart =>
  exact ⟨q, by omega, Nat.le_refl _, rfl, by rw [HQ.out]; exact H0.out, rfl⟩
 case round =>
  obtain ⟨k, hk, hqk, rfl, hb, rfl⟩ := hrel
  have HB := Lib.hid hb
  clear hb
  by_cases hlt : k < n
  ·have c1 := h.cell k hlt
   obtain ⟨x, hx⟩ : ∃ x, x = wd (fun i => f i && decide (p ≤ i)) k := ⟨_, rfl⟩
   have HX := Lib.hid hx
   have hxl : x < 18446744073709551616 := by rw [hx]; exact wd_lt _ _
   have HM : x = 0 → ∀ i, p ≤ i → i < 64 * (k + 1) → f i = false := fun e => from_miss HB.out (by rw [← hx]; exact e)
   have HH : x ≠ 0 → IsFrom f p (64 * (k : Int) + (Lib.ctz 64 x : Int)) := fun e => by rw [hx]; exact from_hit HB.out (by rw [← hx]; exact e)
   have hct : x ≠ 0 → Lib.ctz 64 x < 64 := fun e => (ctz_bit hxl e).1
   have HM := Lib.hid HM; have HH := Lib.hid HH
   by_cases hkq : k = q
   ·subst hkq
    have hm := from_bits f p
    rw [← HQ.out, ← HR.out, ← hx] at hm
    clear hx
    generalize wd f k = y at *
    by_cases hx0 : x = 0
    ·subst hx0
     go_wp2
     go_roundw
     case rel => exact ⟨k + 1, by omega, by omega, by simp, HM.out rfl, trivial⟩
     case measure => (simp [RowKit.intOf]) <;> omega
    ·have HT := Lib.hid (tz_c x hxl hx0 wr hT)
     have hct' := hct hx0
     have hxz : ((x : Int) != 0) = true := by simpa using hx0
     have HR := Lib.hid (HH.out hx0)
     clear HH HM hct
     generalize Lib.ctz 64 x = z at *
     go_wp2_with fail
     refine HT.out.mono ?_
     rintro e w1 ⟨rfl, rfl⟩
     go_wp2
     go_ret
     exact ⟨⟨_, rfl, HR.out⟩, rfl⟩
   ·have hab := wd_above (f := f) (p := p) (k := k) (by omega)
    rw [← hx] at hab
    rw [← hab] at c1
    have hkq' : ((k : Int) == (q : Int)) = false := by rw [beq_eq_false_iff_ne]; omega
    clear hab hx
    by_cases hx0 : x = 0
    ·subst hx0
     go_wp2
     go_roundw
     case rel => exact ⟨k + 1, by omega, by omega, by simp, HM.out rfl, trivial⟩
     case measure => (simp [RowKit.intOf]) <;> omega
    ·have HT := Lib.hid (tz_c x hxl hx0 wr hT)
     have hct' := hct hx0
     have hxz : ((x : Int) != 0) = true := by simpa using hx0
     have HR := Lib.hid (HH.out hx0)
     clear HH HM hct
     generalize Lib.ctz 64 x = z at *
     go_wp2_with fail
     refine HT.out.mono ?_
     rintro e w1 ⟨rfl, rfl⟩
     go_wp2
     go_ret
     exact ⟨⟨_, rfl, HR.out⟩, rfl⟩
  ·have hend : IsFrom f p (-1) := .inl ⟨rfl, fun i hi => by
    rcases Nat.lt_or_ge i (64 * k) with c | c
    ·exact HB.out i hi c
    ·exact HF.out i (by omega)⟩
   go_wp2
   go_ret
   exact ⟨⟨_, rfl, hend⟩, rfl⟩
end Go.Proofs.YtgllmhheahlpjaaGreatDoor
