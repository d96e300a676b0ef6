/- Parse's scan: upTo. -/
import Derived.Test.YtkcbknfhckomcaaGreatDoorYRxTd
import Derived.Test.YtkcbknfhckomcaaGreatDoorYRxU
import Derived.Test.YtkcbknfhckomcaaGreatDoorYRxTb
import Derived.Lib.SmallJoins
import Derived.Test.YtkcbknfhckomcaaGreatDoorYSetE
import Derived.Lib.AtoiAllCases
import Derived.Lib.IndexMore
import Derived.Lib.IndexBytes
import Derived.Laws.EntriesVeiled
import Derived.BigQuiet
import Derived.Deep.RegionHeld3
import Derived.Test.YtkcbknfhckomcaaGreatDoorYRxK
import Derived.Test.YtkcbknfhckomcaaGreatDoorTie
import Derived.Test.YtkcbknfhckomcaaGreatDoorCards
import Derived.ProofKit
import Derived.LaidMore
import Derived.OpenShut
import Derived.Stop.Joined
import Derived.Lib.LaidTab
import Derived.Lib.LaidU8
import Derived.SevenTiedAt
import Derived.Laws.IdiomArrays
import Derived.Deep.Slices
import Derived.SizedLaws
import Derived.Shelf.Vars
import Derived.Carry
import Derived.Test.YtkcbknfhckomcaaGreatDoorYSetMn
set_option linter.unusedVariables false
set_option linter.unusedSimpArgs false
set_option maxRecDepth 100000
set_option maxHeartbeats 40000000
namespace Go.Proofs.YtkcbknfhckomcaaGreatDoor
open Go.RowKit Go.Lib
def MaxLen (w : World) : Prop := ∃ m, w.cell? ⟨2, 0, none⟩ = some (.int .i64 m)
end Go.Proofs.YtkcbknfhckomcaaGreatDoor
namespace Go.Proofs.YtkcbknfhckomcaaGreatDoor
open Go.RowKit Go.Lib
structure Vars (w : World) : Prop where
 max : MaxLen w
 syn : ∃ tp p, w.var? Tryz.prog "strconv.ErrSyntax" = some #[.iface tp p]
 rng : ∃ tp p, w.var? Tryz.prog "strconv.ErrRange" = some #[.iface tp p]
theorem World.lt_of_cell {w : World} {a : Addr} {v : Value} (h : w.cell? a = some v) : a.block < w.heap.size := by
 rcases Nat.lt_or_ge a.block w.heap.size with q | q
 ·exact q
 ·unfold World.cell? at h
  rw [Array.getElem?_eq_none q] at h
  simp at h
theorem synNamed : ∃ g, Tryz.prog.globalNamed "strconv.ErrSyntax" = some g := Option.isSome_iff_exists.1 (by kernel_rfl)
theorem rngNamed : ∃ g, Tryz.prog.globalNamed "strconv.ErrRange" = some g := Option.isSome_iff_exists.1 (by kernel_rfl)
theorem MaxLen.below {w w' : World} (h : MaxLen w) (hB : Below w.heap.size w w') : MaxLen w' := by
 obtain ⟨m, h⟩ := h
 exact ⟨m, (hB.cell (World.lt_of_cell h)).trans h⟩
theorem Vars.below {w w' : World} (h : Vars w) (hB : Below w.heap.size w w') : Vars w' := by
 obtain ⟨h1, ⟨t, p, h2⟩, ⟨t', p', h3⟩⟩ := h
 obtain ⟨g, hg⟩ := synNamed
 obtain ⟨g', hg'⟩ := rngNamed
 exact ⟨h1.below hB, ⟨t, p, Joins.var_stays hg h2 hB (Nat.le_refl _)⟩, ⟨t', p', Joins.var_stays hg' h3 hB (Nat.le_refl _)⟩⟩
end Go.Proofs.YtkcbknfhckomcaaGreatDoor
namespace Go.Proofs.YtkcbknfhckomcaaGreatDoor
open Go.RowKit Go.Lib
def T.nodes : T → Nat → List Nd
 | .leaf x, _ => [x]
 | .two k a b, o => a.nodes o ++ (b.nodes (o + a.size) ++ [T.root (.two k a b) o])
 | .times m M t, o => t.nodes o ++ [T.root (.times m M t) o]
 | .group n t, o => t.nodes o ++ [T.root (.group n t) o]
theorem T.nodes_len : ∀ (t : T) (o : Nat), (t.nodes o).length = t.size
 | .leaf x, o => rfl
 | .two k a b, o => by simp [T.nodes, T.size, T.nodes_len a, T.nodes_len b]; omega
 | .times m M t, o => by simp [T.nodes, T.size, T.nodes_len t]
 | .group n t, o => by simp [T.nodes, T.size, T.nodes_len t]
theorem T.At.nodes {l : Nat → Option Nd} : ∀ (t : T) (o : Nat), T.At l t o → ∀ i, i < t.size → l (o + i) = (t.nodes o)[i]?
 | .leaf x, o, h, i, hi => by
  simp only [T.size] at hi
  obtain rfl : i = 0 := by omega
  exact h
 | .two k a b, o, ⟨h1, h2, h3⟩, i, hi => by
  simp only [T.size] at hi
  simp only [T.nodes]
  rcases Nat.lt_or_ge i a.size with c | c
  ·rw [List.getElem?_append_left (by rw [T.nodes_len]; exact c)]
   exact T.At.nodes a o h1 i c
  ·rw [List.getElem?_append_right (by rw [T.nodes_len]; exact c), T.nodes_len]
   rcases Nat.lt_or_ge (i - a.size) b.size with d | d
   ·rw [List.getElem?_append_left (by rw [T.nodes_len]; exact d), ← T.At.nodes b _ h2 _ d]
    congr 1; omega
   ·rw [List.getElem?_append_right (by rw [T.nodes_len]; exact d), T.nodes_len]
    have e : i - a.size - b.size = 0 := by omega
    rw [e, show o + i = o + a.size + b.size by omega, h3]
    rfl
 | .times m M t, o, ⟨h1, h3⟩, i, hi => by
  simp only [T.size] at hi
  simp only [T.nodes]
  rcases Nat.lt_or_ge i t.size with c | c
  ·rw [List.getElem?_append_left (by rw [T.nodes_len]; exact c)]
   exact T.At.nodes t o h1 i c
  ·rw [List.getElem?_append_right (by rw [T.nodes_len]; exact c), T.nodes_len]
   have e : i - t.size = 0 := by omega
   rw [e, show o + i = o + t.size by omega, h3]
   rfl
 | .group n t, o, ⟨h1, h3⟩, i, hi => by
  simp only [T.size] at hi
  simp only [T.nodes]
  rcases Nat.lt_or_ge i t.size with c | c
  ·rw [List.getElem?_append_left (by rw [T.nodes_len]; exact c)]
   exact T.At.nodes t o h1 i c
  ·rw [List.getElem?_append_right (by rw [T.nodes_len]; exact c), T.nodes_len]
   have e : i - t.size = 0 := by omega
   rw [e, show o + i = o + t.size by omega, h3]
   rfl
theorem IsPat.nodes {xs : List Nd} {t : T} (h : IsPat xs t) : xs = t.nodes 0 := by
 obtain ⟨_, ha, hs, _⟩ := h
 apply List.ext_getElem?
 intro i
 rcases Nat.lt_or_ge i t.size with c | c
 ·have := T.At.nodes t 0 ha i c
  rw [Nat.zero_add] at this
  exact this
 ·rw [List.getElem?_eq_none (by omega), List.getElem?_eq_none (by rw [T.nodes_len]; exact c)]
end Go.Proofs.YtkcbknfhckomcaaGreatDoor
namespace Go.Proofs.YtkcbknfhckomcaaGreatDoor
open Go.RowKit
theorem cnt_of {m M : Int} (h : isCnt m M = true) : 0 ≤ m ∧ m ≤ 255 ∧ -1 ≤ M ∧ M ≤ 255 := by
 unfold isCnt at h
 split at h
 ·cases h
 ·have := of_decide_eq_true h
  omega
end Go.Proofs.YtkcbknfhckomcaaGreatDoor
namespace Go.Proofs.YtkcbknfhckomcaaGreatDoor
open Go.RowKit Go.Lib
structure Fit4 (w : World) : Prop where
 f : Fit3 w
 v : Vars w
theorem Fit4.below {w w' : World} (h : Fit4 w) (hB : Below w.heap.size w w') : Fit4 w' := ⟨h.f.below hB, h.v.below hB⟩
end Go.Proofs.YtkcbknfhckomcaaGreatDoor
namespace Go.Proofs.YtkcbknfhckomcaaGreatDoor
open Go.RowKit Go.Lib
def s0 : List UInt8 := [38, 91, 54, 49, 93, 42, 48, 44, 45, 49, 59, 91, 54, 50, 93]
def na : Nd := ⟨1, 0, 8589934592, 0, 0, 0, 0, 0, 0, 0⟩
def nb : Nd := ⟨1, 0, 17179869184, 0, 0, 0, 0, 0, 0, 0⟩
def x0 : List Nd := [na, nb, ⟨6, 0, 0, 0, 0, 1, 0, 0, -1, 0⟩, ⟨4, 0, 0, 0, 0, 0, 2, 0, 0, 0⟩]
theorem Fit4.drew {w : World} (h : Fit4 w) : Fit4 w.drew := h.below ((Below.refl _ _).drew)
end Go.Proofs.YtkcbknfhckomcaaGreatDoor
namespace Go.Proofs.YtkcbknfhckomcaaGreatDoor
open Go.ChangeShapes Go.WideShapes Go.ChangeAt Go.RowKit
theorem own : ownKnob Tryz.prog.godebug = none := by kernel_rfl
theorem laidOut : laidOutB Tryz.prog = true := by kernel_rfl
def laid3 : List (String × DataW Unit) := [("math/bits.deBruijn32tab", Rows.laid_math_bits_deBruijn32tab), ("math/bits.deBruijn64tab", Rows.laid_math_bits_deBruijn64tab), ("internal/strconv.uint64pow10", Rows.laid_internal_strconv_uint64pow10), ("strconv.ErrRange", Rows.laid_strconv_ErrRange), ("strconv.ErrSyntax", Rows.laid_strconv_ErrSyntax)]
theorem door_met (os : Os) (args : Array Value) : laidMetH Tryz.prog laid3 ((World.doorLaid Tryz.prog 400 os).forCall (fun _ _ => 0) ⟨#[], args, []⟩).memory :=
 laidMetH_of_parts3 (fuel := 8) (laidMet_of_run' 8 (by kernel_rfl) (by kernel_rfl)) (by kernel_rfl) (by kernel_rfl)
theorem data64 : (Rows.laid_math_bits_deBruijn64tab : DataW Unit) = Lib.tabData .u8 (Lib.deBruijn64tab.map (fun k : Nat => (k : Int))) := by
 simp [Rows.laid_math_bits_deBruijn64tab, Lib.tabData, Lib.deBruijn64tab]
theorem dataPow : (Rows.laid_internal_strconv_uint64pow10 : DataW Unit) = Lib.tabData .u64 Lib.pow10Tab := by
 simp [Rows.laid_internal_strconv_uint64pow10, Lib.tabData, Lib.pow10Tab, show List.range 20 = [0, 1, 2, 3, 4, 5, 6, 7, 8, 9, 10, 11, 12, 13, 14, 15, 16, 17, 18, 19] from rfl]
theorem tab_of_reads {W : World} {name : String} {g : Nat} {t e : TypeId} {n : Nat} {k : IntKind} {zs : List Int} (hg : Tryz.prog.globalNamed name = some g) (hty : (Tryz.prog.globals[g]?).map (·.type) = some t)
  (ht : Tryz.prog.underlying t = some (.array n e)) (he : Tryz.prog.underlying e = some (.int k)) (hce : Tryz.prog.cellsOf e = 1) (hct : Tryz.prog.cellsOf t = n) (h : Lib.VarReads Tryz.prog W name (Lib.tabData k zs)) : Lib.TabIs Tryz.prog W name k zs := by
 obtain ⟨g', t', cs, fuel, p, h1, h2, h3, h4⟩ := h
 obtain rfl := Option.some.inj (hg.symm.trans h1)
 obtain rfl := Option.some.inj (hty.symm.trans h2)
 unfold Lib.TabIs
 rw [h3, ← Lib.cells_of_tab ht he hce hct h4]
theorem err_of_reads {W : World} {name nm : String} {g : Nat} {t : TypeId} {ms : Array (String × TypeId)} {d : DataW Unit} (hg : Tryz.prog.globalNamed name = some g) (hty : (Tryz.prog.globals[g]?).map (·.type) = some t)
  (ht : Tryz.prog.underlying t = some (.interface ms)) (h : Lib.VarReads Tryz.prog W name (.iface nm d)) : ∃ tp p, W.var? Tryz.prog name = some #[.iface tp p] := by
 obtain ⟨g', t', cs, fuel, p, h1, h2, h3, h4⟩ := h
 obtain rfl := Option.some.inj (hg.symm.trans h1)
 obtain rfl := Option.some.inj (hty.symm.trans h2)
 obtain ⟨_, u, v, hcs, _, _⟩ := iface_of_trod ht h4
 refine ⟨u, v, ?_⟩
 rw [h3]
 obtain ⟨l⟩ := cs
 simp only at hcs
 rw [hcs]
theorem fit_of_laid {W : World} (h : laidMetH Tryz.prog laid3 W) (hsh : W.ShapedOpen Tryz.prog) : Fit4 W := by
 rw [MakeChecks.laidMetH_plain _ _ _ (by kernel_rfl)] at h
 have r1 := Lib.laidMet.reads h (n := "math/bits.deBruijn64tab") (d := Rows.laid_math_bits_deBruijn64tab) (by simp [laid3])
 have r2 := Lib.laidMet.reads h (n := "internal/strconv.uint64pow10") (d := Rows.laid_internal_strconv_uint64pow10) (by simp [laid3])
 have r3 := Lib.laidMet.reads h (n := "strconv.ErrRange") (d := Rows.laid_strconv_ErrRange) (by simp [laid3])
 have r4 := Lib.laidMet.reads h (n := "strconv.ErrSyntax") (d := Rows.laid_strconv_ErrSyntax) (by simp [laid3])
 rw [data64] at r1
 rw [dataPow] at r2
 have gTab : Tryz.prog.globalNamed "math/bits.deBruijn64tab" = some 0 := by kernel_rfl
 have ht := tab_of_reads gTab (by kernel_rfl) Tryz.underlying153 Tryz.underlying5 (by kernel_rfl) (by kernel_rfl) r1
 have hc : TabAt 0 Lib.deBruijn64tab W := fun j hj => by
  rw [World.var?_cell gTab ht j]
  simp [List.getD, List.getElem?_eq_getElem hj]
 have gPow : ∃ g, Tryz.prog.globalNamed "internal/strconv.uint64pow10" = some g := Option.isSome_iff_exists.1 (by kernel_rfl)
 refine ⟨⟨⟨hc, cell_lt (hc 0 (by decide))⟩, ?_⟩, ⟨?_, ?_, ?_⟩⟩
 ·exact tab_of_reads (g := 1) (by kernel_rfl) (by kernel_rfl) Tryz.underlying158 Tryz.underlying36 (by kernel_rfl) (by kernel_rfl) r2
 ·exact cell_of_shapedOpen_int (P := Tryz.prog) (g := 2) (t := 3) (zero := #[.int .i64 0]) hsh (of_decide_eq_true (by kernel_rfl)) (by kernel_rfl) rfl (by kernel_rfl) (by kernel_rfl) Tryz.underlying3
 ·exact err_of_reads (g := 4) (by kernel_rfl) (by kernel_rfl) Tryz.underlying129 r4
 ·exact err_of_reads (g := 5) (by kernel_rfl) (by kernel_rfl) Tryz.underlying129 r3
theorem form_of_contract {H : Type} {enc : TypeId × Value → H} {C : Checked} {os : Os} {f : FuncId} {fn : Func} {s : ChangeSpec} {apart : Bool} {X : World → Array Value → Prop}
  (hX : ∀ (w w' : World) (args : Array Value), w.heap = w'.heap → X w args → X w' args)
  (own : ownKnob C.prog.godebug = none) (started : os.Started) (noInit : C.prog.inits.idxOf? f = none) (hfn : C.prog.funcs[f]? = some fn)
  (witness : ∃ (w : World) (tape : Tape) (i : Input), w.os = os ∧ (w.forCall tape i).Shaped C.prog ∧ i.vars = [] ∧ Input.okWide C.prog (w.forCall tape i) .any w.heap.size f i ∧
   ((s.pre enc C.prog fn [] apart (w.forCall tape i).memory i.args ∧ X (w.forCall tape i).memory i.args) ∧ sizedMet enc C.prog fn (OpenSpec.ofChange s) apart (w.forCall tape i).memory i.args) ∧ Assume.holds {} C.prog (lone (Frame.enter C.prog f i.args .normal) [] (w.forCall tape i)))
  (contract : ∀ (W : World) (base : Nat) (args : Array Value) (ds gs : List (DataW H)) (before : List MemPlace),
   (∀ (j : Nat) t v, fn.params[j]? = some t → args[j]? = some v → Value.okWide C.prog W .any base t v) →
   DataW.Whole enc C.prog fn.params.toList s.vars apart W args.toList ds gs before →
   (DataW.weightsEach C.prog (fn.params.toList ++ s.plain.varTypes C.prog) (ds ++ gs)).all (· ≤ reachBytes) = true → X W args → W.ShapedOpen C.prog →
   Calls C.prog f args W fun e W' => ∃ v, e = .returned v ∧ s.post enc C.prog fn apart true false false W args v W') :
  ReturnsInHanded {} C os f .any (fun w args => (s.pre enc C.prog fn [] apart w args ∧ X w args) ∧ sizedMet enc C.prog fn (OpenSpec.ofChange s) apart w args) (s.post enc C.prog fn apart true false false) := by
 refine returnsInHanded_of_calls own started noInit witness ?_
 intro w tape i _ shape _ ok pre _
 obtain ⟨_, _, _, fn2, hfn2, _, _, _, _, val⟩ := ok
 cases Option.some.inj (hfn2.symm.trans hfn)
 obtain ⟨⟨⟨ds, gs, before, whole, _⟩, x⟩, sized⟩ := pre
 have whole2 := DataW.Whole.of_heap (w' := w.forCall tape i) (by rfl) whole
 have call := contract (w.forCall tape i) w.heap.size i.args ds gs before val whole2 (sized.weights whole) (hX _ _ _ (by rfl) x) shape
 exact call.mono fun e W' ⟨v, he, hp⟩ => by
  subst he
  exact ChangeSpec.post_blind hp
section
variable {H : Type} {enc : TypeId × Value → H} {W : World} {base : Nat} {sp : Nat → Bool} {held : Bool}
theorem int_of_wf {x : Int} (h : (Lit.int .i64 x).wf = true) : -9223372036854775808 ≤ x ∧ x ≤ 9223372036854775807 := by
 simp [Lit.wf, IntKind.min, IntKind.max, IntKind.signed, IntKind.bits] at h
 exact h
theorem word_of_wf {x : Int} (h : (Lit.int .u64 x).wf = true) : ∃ n : Nat, x = n ∧ n < 18446744073709551616 := by
 simp [Lit.wf, IntKind.min, IntKind.max, IntKind.signed, IntKind.bits] at h
 exact ⟨x.toNat, by omega, by omega⟩
theorem cellsI1 : Tryz.prog.cellsOf 3 = 1 := by kernel_rfl
theorem cellsU1 : Tryz.prog.cellsOf 36 = 1 := by kernel_rfl
theorem cellsS4 : Tryz.prog.cellsOf 38 = 4 := by kernel_rfl
theorem cellsN10 : Tryz.prog.cellsOf 40 = 10 := by kernel_rfl
theorem bytesN : Tryz.prog.bytesOf 40 = 80 := by kernel_rfl
theorem list10 {α : Type} (l : List α) (h : l.length = 10) : ∃ a b c d e f g i j k, l = [a, b, c, d, e, f, g, i, j, k] := by
 match l, h with
 | [a, b, c, d, e, f, g, i, j, k], _ => exact ⟨a, b, c, d, e, f, g, i, j, k, rfl⟩
theorem open_node {fuel : Nat} {cs : List Value} {y : DataW H × List MemPlace} (h : DataW.trod enc Tryz.prog W base sp held fuel 40 cs = some y) : ∃ x : Nd, x.Fits ∧ cs = x.cells.toList := by
 obtain ⟨xs, k, _, _, hl, hxl, hf⟩ := DataW.trod_struct Tryz.underlying40 h
 rw [cellsN10] at hl
 obtain ⟨a, b, c, d, e, f, g, i, j, l, rfl⟩ := list10 cs hl
 have g0 := hf 0 _ rfl
 have g1 := hf 1 _ rfl
 have g2 := hf 2 _ rfl
 have g3 := hf 3 _ rfl
 have g4 := hf 4 _ rfl
 have g5 := hf 5 _ rfl
 have g6 := hf 6 _ rfl
 have hsz : xs.length = 7 := hxl
 match xs, hsz with
 | [y0, y1, y2, y3, y4, y5, y6], _ =>
  simp [cellsI1, cellsS4] at g0 g1 g2 g3 g4 g5 g6
  obtain ⟨z0, e0, _, w0⟩ := DataW.trod_int Tryz.underlying3 g0
  obtain ⟨z2, e2, _, w2⟩ := DataW.trod_int Tryz.underlying3 g2
  obtain ⟨z3, e3, _, w3⟩ := DataW.trod_int Tryz.underlying3 g3
  obtain ⟨z4, e4, _, w4⟩ := DataW.trod_int Tryz.underlying3 g4
  obtain ⟨z5, e5, _, w5⟩ := DataW.trod_int Tryz.underlying3 g5
  obtain ⟨z6, e6, _, w6⟩ := DataW.trod_int Tryz.underlying3 g6
  obtain ⟨u0, u1, u2, u3, m, _, hu0, hu1, hu2, hu3⟩ := trod_array4 Tryz.underlying38 cellsU1 g1
  obtain ⟨x0, f0, _, v0⟩ := DataW.trod_int Tryz.underlying36 hu0
  obtain ⟨x1, f1, _, v1⟩ := DataW.trod_int Tryz.underlying36 hu1
  obtain ⟨x2, f2, _, v2⟩ := DataW.trod_int Tryz.underlying36 hu2
  obtain ⟨x3, f3, _, v3⟩ := DataW.trod_int Tryz.underlying36 hu3
  simp at e0 e2 e3 e4 e5 e6 f0 f1 f2 f3
  subst e0 e2 e3 e4 e5 e6 f0 f1 f2 f3
  obtain ⟨n0, rfl, l0⟩ := word_of_wf v0
  obtain ⟨n1, rfl, l1⟩ := word_of_wf v1
  obtain ⟨n2, rfl, l2⟩ := word_of_wf v2
  obtain ⟨n3, rfl, l3⟩ := word_of_wf v3
  exact ⟨⟨z0, n0, n1, n2, n3, z2, z3, z4, z5, z6⟩, ⟨int_of_wf w0, l0, l1, l2, l3, int_of_wf w2, int_of_wf w3, int_of_wf w4, int_of_wf w5, int_of_wf w6⟩, rfl⟩
instance : Inhabited Nd := ⟨⟨0, 0, 0, 0, 0, 0, 0, 0, 0, 0⟩⟩
theorem open_nodes {a0 : Option Addr} {len cap : Nat} {d : DataW H} {ps : List MemPlace} (hd : DataW.Trod enc Tryz.prog W base sp held 22 (.slice a0 len cap) d ps)
  (hw : ∀ el spare, d = .slice el spare → (el.length + spare.length) * 80 ≤ reachBytes) : ∃ xs, Nodes W a0 len xs := by
 obtain ⟨fuel, hf⟩ := hd
 rcases Deep.open_slice Tryz.underlying22 hf with ⟨hcs, _⟩ | ⟨a, len', cap', m, n, D, Pl, hcs, _, hl, hm, hmm, hx, hel⟩
 ·simp [Value.cells] at hcs
  obtain ⟨rfl, rfl, rfl⟩ := hcs
  exact ⟨[], ⟨rfl, by omega, fun h => absurd h (by omega), fun h => absurd h (by omega), fun i x h => by simp at h⟩⟩
 ·simp [Value.cells] at hcs
  obtain ⟨rfl, rfl, rfl⟩ := hcs
  have hlm : len ≤ m := by rw [hmm]; split <;> omega
  have hr := hw _ _ (Prod.mk.inj hx).1
  simp only [List.length_map, List.length_range] at hr
  have hrb : reachBytes = 140737488351232 := by decide
  rw [hrb] at hr
  have each : ∀ i, i < len → ∃ x : Nd, x.Fits ∧ ∀ j : Nat, j < 10 → W.cell? (a.add (i * 10 + j)) = x.cells[j]? := fun i hi => by
   obtain ⟨cs', h1, h2⟩ := hel i (by omega)
   rw [cellsN10] at h1
   obtain ⟨x, hxf, rfl⟩ := open_node h2
   obtain ⟨_, _, hcell⟩ := World.cells?_some h1
   refine ⟨x, hxf, fun j hj => ?_⟩
   have := hcell j hj
   rw [Deep.add_add] at this
   rw [this]
   simp
  obtain ⟨X, hX⟩ := Deep.choose_lt each
  refine ⟨(List.range len).map X, ⟨by simp, by omega, ?_, ?_, ?_⟩⟩
  ·intro h1
   obtain ⟨b, off, spot⟩ := a
   have h0 := (hX 0 (by omega)).2 0 (by omega)
   have hspot : spot = none := by simpa [Addr.add] using World.cell?_spot (h0.trans rfl)
   exact ⟨b, off, by rw [hspot]⟩
  ·intro h1 b o e
   obtain rfl : a = ⟨b, o, none⟩ := Option.some.inj e
   refine ⟨?_, fun i x hx j v hv => ?_⟩
   ·have h0 := (hX 0 (by omega)).2 0 (by omega)
    rw [add_plain] at h0
    exact World.lt_of_cell (h0.trans rfl)
   ·have hi : i < len := by
     have := (List.getElem?_eq_some_iff.1 hx).1
     simpa using this
    have hx' : X i = x := by simpa [hi] using hx
    have hj : j < 10 := by
     have := (Array.getElem?_eq_some_iff.1 hv).1
     simpa [Nd.cells] using this
    have := (hX i hi).2 j hj
    rw [add_plain, hx', hv] at this
    rw [Nat.add_assoc]
    exact this
  ·intro i x hx
   have hi : i < len := by
    have := (List.getElem?_eq_some_iff.1 hx).1
    simpa using this
   have hx' : X i = x := by simpa [hi] using hx
   rw [← hx']
   exact (hX i hi).1
end
end Go.Proofs.YtkcbknfhckomcaaGreatDoor
namespace Go.Proofs.YtkcbknfhckomcaaGreatDoor
open Go.ChangeShapes Go.WideShapes Go.ChangeAt Go.RowKit
theorem Fit4.five {w : World} (h : Fit4 w) : Fit5 w := ⟨h.f, h.v.max, h.v.syn⟩
end Go.Proofs.YtkcbknfhckomcaaGreatDoor
namespace Go.Proofs.YtkcbknfhckomcaaGreatDoor
open Go.RowKit
theorem infoRn : (Tryz.prog.info? 47).map (fun i => (i.zero, i.size, i.bytes)) = some (some (.agg #[.int .i64 0, .int .u64 0, .int .u64 0, .int .u64 0, .int .u64 0, .int .i64 0, .int .i64 0, .int .i64 0, .int .i64 0, .int .i64 0]), 10, 80) := by kernel_rfl
def RRow (w : World) (B : Nat) (v : Value) (n : Nat) (xs : List Nd) : Prop := w.ownsRow B 47 10 v n (flat xs)
theorem flat_snoc (xs : List Nd) (k : Nat) (x : Nd) (h : xs[k]? = some x) : flat (xs.take (k + 1)) = flat (xs.take k) ++ x.cells.toList := by
 have hk := (List.getElem?_eq_some_iff.1 h)
 obtain ⟨hk, e⟩ := hk
 rw [List.take_succ_eq_append_getElem hk, e]
 simp [flat]
end Go.Proofs.YtkcbknfhckomcaaGreatDoor
namespace Go.Proofs.YtkcbknfhckomcaaGreatDoor
open Go.RowKit
theorem keyRn : Tryz.prog.keyTypeAt 3 47 = true := by kernel_rfl
theorem cellsRn : Tryz.prog.cellsOf 47 = 10 := by kernel_rfl
theorem cellsA4 : Tryz.prog.cellsOf 37 = 4 := by kernel_rfl
theorem lits_rn (x : Nd) (h : x.Fits) : Tryz.prog.keyLits 4 47 x.cells.toList = some x.lits := by
 have hk := wf_i64 h.k; have ha := wf_i64 h.a; have hb := wf_i64 h.b; have hm := wf_i64 h.mn; have hM := wf_i64 h.mx; have hn := wf_i64 h.n
 have h0 := wf_u64 h.s0; have h1 := wf_u64 h.s1; have h2 := wf_u64 h.s2; have h3 := wf_u64 h.s3
 simp [Program.keyLits, Tryz.underlying47, Tryz.underlying3, Tryz.underlying36, Tryz.underlying37, Nd.cells, cellsRn, cellsI, cellsU, cellsA4, hk, ha, hb, hm, hM, hn, h0, h1, h2, h3, show List.range 4 = [0, 1, 2, 3] from rfl, Nd.lits]
theorem formedRn (x : Nd) : x.v.formed Tryz.prog 47 = true := by
 simp [Value.formed, Nd.v, Nd.cells, Tryz.underlying47, cellsRn]
theorem eq_rn (x y : Nd) (hx : x.Fits) (hy : y.Fits) (w : World) : (Op.equalIn 10000 47 x.v y.v).run Tryz.prog w = .ok (decide (x = y)) w := by
 obtain ⟨r, hr, hiff⟩ := run_equalIn_deep 9997 3 _ keyRn w 4 4 x.v y.v x.lits y.lits (formedRn x) (formedRn y) (lits_rn x hx) (lits_rn y hy)
 rw [hr]
 congr 1
 rw [Bool.eq_iff_iff, hiff, lits_inj, decide_eq_true_iff]
theorem NodesAt.alloc {w : World} {b o : Nat} {xs : List Nd} (h : NodesAt w b o xs) (ob : Obj) : NodesAt (w.alloc ob) b o xs := h.below (B := w.heap.size) ((Below.refl _ w).alloc (Nat.le_refl _) ob) h.lt
theorem rows_nodes {w : World} {B n : Nat} {v : Value} {xs : List Nd} (h : RRow w B v n xs) (hn : xs.length = n) (hs : n ≤ 1000) (hf : ∀ (i : Nat) (x : Nd), xs[i]? = some x → x.Fits) :
  ∃ p cap, v = .slice p n cap ∧ Nodes w p n xs := by
 rcases h.2 with ⟨rfl, rfl⟩ | ⟨g, cap, cur, rfl, hg, hb, _, _, hc, ht⟩
 ·exact ⟨none, 0, rfl, ⟨hn, by omega, fun h => absurd h (by omega), fun h => absurd h (by omega), hf⟩⟩
 ·have hN : NodesAt w g 0 xs := ⟨(Array.getElem?_eq_some_iff.1 hb).1, fun i x hx j u hj => by
   have hi : i < xs.length := (List.getElem?_eq_some_iff.1 hx).1
   have hj10 : j < 10 := by
    have := (Array.getElem?_eq_some_iff.1 hj).1
    simpa [Nd.cells] using this
   rw [cell_of _ _ _ _ hb, Nat.zero_add]
   have e1 := flat_get xs i j x hx hj10
   rw [hj] at e1
   have : (cur.toList.take (n * 10))[i * 10 + j]? = (flat xs)[i * 10 + j]? := by rw [ht]
   rw [List.getElem?_take_of_lt (by omega), e1] at this
   rw [← this]
   simp⟩
  refine ⟨some ⟨g, 0, none⟩, cap, rfl, ⟨hn, by omega, fun _ => ⟨g, 0, rfl⟩, fun _ b o e => ?_, hf⟩⟩
  simp only [Option.some.injEq, Addr.mk.injEq] at e
  obtain ⟨rfl, rfl, _⟩ := e
  exact hN
end Go.Proofs.YtkcbknfhckomcaaGreatDoor
namespace Go.Proofs.YtkcbknfhckomcaaGreatDoor
open Go.RowKit
theorem same_c (p q : Option Addr) (n m cap cap' : Nat) (xs ys : List Nd) (r : Bool) (hr : r = true ↔ xs = ys) (w : World) (h : Nodes w p n xs) (h' : Nodes w q m ys) :
  Calls Tryz.prog 17 #[.slice p n cap, .slice q m cap'] w fun e w' => e = .returned (.bool r) ∧ Below w.heap.size w w' := by
 have hlen := h.len
 have hlen' := h'.len
 have hs := h.small
 have hs' := h'.small
 by_cases hnm : n = m
 ·subst hnm
  have HR := Lib.hid hr
  clear hr
  go_enter Tryz.func17, Tryz.ntmps17
  go_wp2
  go_loopw [5] (fun i wr => ∃ k : Nat, k ≤ n ∧ i = .int .i64 k ∧ (∀ j, j < k → xs[j]? = ys[j]?) ∧ Below w.heap.size w wr) (fun i _ => n - (RowKit.intOf i).toNat)
  case atStart => exact ⟨0, by omega, rfl, fun j hj => absurd hj (by omega), Below.refl _ _⟩
  case round =>
   obtain ⟨k, hk, rfl, hsame, hB⟩ := hrel
   by_cases hlt : k < n
   ·obtain ⟨b, o, rfl⟩ := h.ptr (by omega)
    have hx := h.at' (by omega) b o rfl
    obtain ⟨b', o', rfl⟩ := h'.ptr (by omega)
    have hy := h'.at' (by omega) b' o' rfl
    obtain ⟨x, hxk⟩ : ∃ x, xs[k]? = some x := ⟨xs[k]'(by omega), List.getElem?_eq_getElem (by omega)⟩
    obtain ⟨y, hyk⟩ : ∃ y, ys[k]? = some y := ⟨ys[k]'(by omega), List.getElem?_eq_getElem (by omega)⟩
    have hq := fun w => eq_rn x y (h.fits k x hxk) (h'.fits k y hyk) w
    have d := (hx.below hB hx.lt).cell k x hxk
    have d' := (hy.below hB hy.lt).cell k y hyk
    have lb := hx.lt
    have lb' := hy.lt
    have lB := hB.size
    have hklen : (k : Int) < n := by omega
    obtain ⟨kd, w0, w1, w2, w3, xa, xb, xm, xM, xn⟩ := x
    obtain ⟨kd', w0', w1', w2', w3', xa', xb', xm', xM', xn'⟩ := y
    have d0 : wr.cell? ⟨b, o + k * 10, none⟩ = some (.int .i64 kd) := d 0 _ rfl
    have d1 : wr.cell? ⟨b, o + k * 10 + 1, none⟩ = some (.int .u64 w0) := d 1 _ rfl
    have d2 : wr.cell? ⟨b, o + k * 10 + 2, none⟩ = some (.int .u64 w1) := d 2 _ rfl
    have d3 : wr.cell? ⟨b, o + k * 10 + 3, none⟩ = some (.int .u64 w2) := d 3 _ rfl
    have d4 : wr.cell? ⟨b, o + k * 10 + 4, none⟩ = some (.int .u64 w3) := d 4 _ rfl
    have d5 : wr.cell? ⟨b, o + k * 10 + 5, none⟩ = some (.int .i64 xa) := d 5 _ rfl
    have d6 : wr.cell? ⟨b, o + k * 10 + 6, none⟩ = some (.int .i64 xb) := d 6 _ rfl
    have d7 : wr.cell? ⟨b, o + k * 10 + 7, none⟩ = some (.int .i64 xm) := d 7 _ rfl
    have d8 : wr.cell? ⟨b, o + k * 10 + 8, none⟩ = some (.int .i64 xM) := d 8 _ rfl
    have d9 : wr.cell? ⟨b, o + k * 10 + 9, none⟩ = some (.int .i64 xn) := d 9 _ rfl
    have e0 : wr.cell? ⟨b', o' + k * 10, none⟩ = some (.int .i64 kd') := d' 0 _ rfl
    have e1 : wr.cell? ⟨b', o' + k * 10 + 1, none⟩ = some (.int .u64 w0') := d' 1 _ rfl
    have e2 : wr.cell? ⟨b', o' + k * 10 + 2, none⟩ = some (.int .u64 w1') := d' 2 _ rfl
    have e3 : wr.cell? ⟨b', o' + k * 10 + 3, none⟩ = some (.int .u64 w2') := d' 3 _ rfl
    have e4 : wr.cell? ⟨b', o' + k * 10 + 4, none⟩ = some (.int .u64 w3') := d' 4 _ rfl
    have e5 : wr.cell? ⟨b', o' + k * 10 + 5, none⟩ = some (.int .i64 xa') := d' 5 _ rfl
    have e6 : wr.cell? ⟨b', o' + k * 10 + 6, none⟩ = some (.int .i64 xb') := d' 6 _ rfl
    have e7 : wr.cell? ⟨b', o' + k * 10 + 7, none⟩ = some (.int .i64 xm') := d' 7 _ rfl
    have e8 : wr.cell? ⟨b', o' + k * 10 + 8, none⟩ = some (.int .i64 xM') := d' 8 _ rfl
    have e9 : wr.cell? ⟨b', o' + k * 10 + 9, none⟩ = some (.int .i64 xn') := d' 9 _ rfl
    simp only [Nd.v, Nd.cells] at hq
    by_cases hxy : (⟨kd, w0, w1, w2, w3, xa, xb, xm, xM, xn⟩ : Nd) = ⟨kd', w0', w1', w2', w3', xa', xb', xm', xM', xn'⟩
    ·rw [decide_eq_true hxy] at hq
     have hstep : ∀ j, j < k + 1 → xs[j]? = ys[j]? := fun j hj => by
      by_cases e : j = k
      ·subst e; rw [hxk, hyk, hxy]
      ·exact hsame j (by omega)
     have HS := Lib.hid hstep
     clear d d' hxk hyk hx hy hxy hsame hstep h h' hlen hlen'
     go_wp2_with fail
     go_quiet (fail)
     go_wp2
     go_roundw
     case rel => exact ⟨k + 1, by omega, by simp, HS.out, by first | exact hB | exact Go.below_drewN hB _⟩
     case measure => (simp [RowKit.intOf]) <;> omega
    ·have hrf : r = false := by
      cases r with
      | false => rfl
      | true =>
       have := HR.out.1 rfl
       subst this
       rw [hxk] at hyk
       exact absurd (Option.some.inj hyk) hxy
     rw [decide_eq_false hxy] at hq
     clear d d' hxk hyk hx hy hxy hsame h h' hlen hlen' HR
     subst hrf
     go_wp2_with fail
     go_quiet (fail)
     go_wp2
     go_ret
     exact ⟨rfl, by first | exact hB | exact Go.below_drewN hB _⟩
   ·obtain rfl : k = n := by omega
    have hrt : r = true := HR.out.2 (List.ext_getElem? fun i => by
     by_cases hi : i < k
     ·exact hsame i hi
     ·rw [List.getElem?_eq_none (by omega), List.getElem?_eq_none (by omega)])
    subst hrt
    have hlt1 : ((k : Int) < k) = False := by simp
    clear hsame HR h h'
    go_wp2
    go_ret
    exact ⟨rfl, hB⟩
 ·have hrf : r = false := by
   cases r with
   | false => rfl
   | true =>
    have := hr.1 rfl
    subst this
    omega
  subst hrf
  have hne : ((n : Int) == m) = false := by simp; omega
  clear h h' hr hlen hlen'
  go_enter Tryz.func17, Tryz.ntmps17
  go_wp2
  go_ret
  exact ⟨rfl, Below.refl _ _⟩
end Go.Proofs.YtkcbknfhckomcaaGreatDoor
