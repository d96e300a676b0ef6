/- What lifts the walks of stage 3: the listed variables; a slice of nodes among the arguments. -/
import Derived.Test.YtjgegohidhdbpaaGreatDoorJRxTs
import Derived.Test.YtjgegohidhdbpaaGreatDoorTie
import Derived.Test.YtjgegohidhdbpaaGreatDoorCards
import Derived.ProofKit
import Derived.LaidMore
import Derived.OpenShut
import Derived.Stop.Joined
import Derived.Lib.LaidTab
import Derived.Lib.LaidU8
import Derived.SevenTiedAt
import Derived.Laws.IdiomArrays
import Derived.Deep.Slices
import Derived.SizedLaws
import Derived.Shelf.Vars
import Derived.Carry
import Derived.Test.YtjgegohidhdbpaaGreatDoorJRxU
import Derived.Lib.ItoaNum
open Go.Proofs.Tryz
set_option linter.unusedVariables false
set_option linter.unusedSimpArgs false
set_option maxRecDepth 100000
set_option maxHeartbeats 40000000
namespace Go.Proofs.YtjgegohidhdbpaaGreatDoor
open Go.ChangeShapes Go.WideShapes Go.ChangeAt Go.RowKit
theorem own : ownKnob Tryz.prog.godebug = none := by kernel_rfl
theorem laidOut : laidOutB prog = true := by kernel_rfl
def ZP : List (String × DataW Unit) := [("math/bits.deBruijn32tab", Rows.laid_math_bits_deBruijn32tab), ("math/bits.deBruijn64tab", Rows.laid_math_bits_deBruijn64tab), ("internal/strconv.uint64pow10", Rows.laid_internal_strconv_uint64pow10), ("strconv.ErrRange", Rows.laid_strconv_ErrRange), ("strconv.ErrSyntax", Rows.laid_strconv_ErrSyntax)]
theorem qb6 (os : Os) (args : Array Value) : laidMetH prog ZP ((World.doorLaid prog 400 os).forCall (fun _ _ => 0) ⟨#[], args, []⟩).memory :=
 laidMetH_of_parts3 (fuel := 8) (laidMet_of_run' 8 (by kernel_rfl) (by kernel_rfl)) (by kernel_rfl) (by kernel_rfl)
theorem qhH : (Rows.laid_math_bits_deBruijn64tab : DataW Unit) = Lib.tabData .u8 (Lib.deBruijn64tab.map (fun k : Nat => (k : Int))) := by
 simp [Rows.laid_math_bits_deBruijn64tab, Lib.tabData, Lib.deBruijn64tab]
theorem qfb : (Rows.laid_internal_strconv_uint64pow10 : DataW Unit) = Lib.tabData .u64 Lib.pow10Tab := by
 simp [Rows.laid_internal_strconv_uint64pow10, Lib.tabData, Lib.pow10Tab, show List.range 20 = [0, 1, 2, 3, 4, 5, 6, 7, 8, 9, 10, 11, 12, 13, 14, 15, 16, 17, 18, 19] from rfl]
theorem ZQ {W : World} {name : String} {g : Nat} {t e : TypeId} {n : Nat} {k : IntKind} {zs : List Int} (hg : Tryz.prog.globalNamed name = some g) (hty : (Tryz.prog.globals[g]?).map (·.type) = some t)
  (ht : Tryz.prog.underlying t = some (.array n e)) (he : Tryz.prog.underlying e = some (.int k)) (hce : Tryz.prog.cellsOf e = 1) (VX : Tryz.prog.cellsOf t = n) (h : Lib.VarReads prog W name (Lib.tabData k zs)) : Lib.TabIs prog W name k zs := by
 obtain ⟨g', t', cs, fuel, p, h1, h2, h3, h4⟩ := h
 obtain rfl := Option.some.inj (hg.symm.trans h1)
 obtain rfl := Option.some.inj (hty.symm.trans h2)
 unfold Lib.TabIs
 rw [h3, ← Lib.cells_of_tab ht he hce VX h4]
theorem ZR {W : World} {name nm : String} {g : Nat} {t : TypeId} {ms : Array (String × TypeId)} {d : DataW Unit} (hg : Tryz.prog.globalNamed name = some g) (hty : (Tryz.prog.globals[g]?).map (·.type) = some t)
  (ht : Tryz.prog.underlying t = some (.interface ms)) (h : Lib.VarReads prog W name (.iface nm d)) : ∃ tp p, W.var? prog name = some #[.iface tp p] := by
 obtain ⟨g', t', cs, fuel, p, h1, h2, h3, h4⟩ := h
 obtain rfl := Option.some.inj (hg.symm.trans h1)
 obtain rfl := Option.some.inj (hty.symm.trans h2)
 obtain ⟨_, u, v, hcs, _, _⟩ := iface_of_trod ht h4
 refine ⟨u, v, ?_⟩
 rw [h3]
 obtain ⟨l⟩ := cs
 simp only at hcs
 rw [hcs]
theorem XT {W : World} (h : laidMetH prog ZP W) (hsh : W.ShapedOpen prog) : Jt W := by
 rw [MakeChecks.laidMetH_plain _ _ _ (by kernel_rfl)] at h
 have r1 := Lib.laidMet.reads h (n := "math/bits.deBruijn64tab") (d := Rows.laid_math_bits_deBruijn64tab) (by simp [ZP])
 have r2 := Lib.laidMet.reads h (n := "internal/strconv.uint64pow10") (d := Rows.laid_internal_strconv_uint64pow10) (by simp [ZP])
 have r3 := Lib.laidMet.reads h (n := "strconv.ErrRange") (d := Rows.laid_strconv_ErrRange) (by simp [ZP])
 have r4 := Lib.laidMet.reads h (n := "strconv.ErrSyntax") (d := Rows.laid_strconv_ErrSyntax) (by simp [ZP])
 rw [qhH] at r1
 rw [qfb] at r2
 have gTab : Tryz.prog.globalNamed "math/bits.deBruijn64tab" = some 0 := by kernel_rfl
 have ht := ZQ gTab (by kernel_rfl) underlying156 underlying5 (by kernel_rfl) (by kernel_rfl) r1
 have hc : TabAt 0 Lib.deBruijn64tab W := fun j hj => by
  rw [World.var?_cell gTab ht j]
  simp [List.getD, List.getElem?_eq_getElem hj]
 have gPow : ∃ g, Tryz.prog.globalNamed "internal/strconv.uint64pow10" = some g := Option.isSome_iff_exists.1 (by kernel_rfl)
 refine ⟨⟨⟨hc, yc (hc 0 (by decide))⟩, ?_⟩, ⟨?_, ?_, ?_⟩⟩
 ·exact ZQ (g := 5) (by kernel_rfl) (by kernel_rfl) underlying221 underlying53 (by kernel_rfl) (by kernel_rfl) r2
 ·exact cell_of_shapedOpen_int (P := prog) (g := 4) (t := 3) (zero := #[.int .i64 0]) hsh (of_decide_eq_true (by kernel_rfl)) (by kernel_rfl) rfl (by kernel_rfl) (by kernel_rfl) underlying3
 ·exact ZR (g := 2) (by kernel_rfl) (by kernel_rfl) underlying123 r4
 ·exact ZR (g := 3) (by kernel_rfl) (by kernel_rfl) underlying123 r3
theorem Kt {H : Type} {enc : TypeId × Value → H} {C : Checked} {os : Os} {f : FuncId} {fn : Func} {s : ChangeSpec} {apart : Bool} {X : World → Array Value → Prop}
  (hX : ∀ (w w' : World) (args : Array Value), w.heap = w'.heap → X w args → X w' args)
  (own : ownKnob C.prog.godebug = none) (started : os.Started) (noInit : C.prog.inits.idxOf? f = none) (hfn : C.prog.funcs[f]? = some fn)
  (witness : ∃ (w : World) (tape : Tape) (i : Input), w.os = os ∧ (w.forCall tape i).Shaped C.prog ∧ i.vars = [] ∧ Input.okWide C.prog (w.forCall tape i) .any w.heap.size f i ∧
   ((s.pre enc C.prog fn [] apart (w.forCall tape i).memory i.args ∧ X (w.forCall tape i).memory i.args) ∧ sizedMet enc C.prog fn (OpenSpec.ofChange s) apart (w.forCall tape i).memory i.args) ∧ Assume.holds {} C.prog (lone (Frame.enter C.prog f i.args .normal) [] (w.forCall tape i)))
  (contract : ∀ (W : World) (base : Nat) (args : Array Value) (ds gs : List (DataW H)) (before : List MemPlace),
   (∀ (j : Nat) t v, fn.params[j]? = some t → args[j]? = some v → Value.okWide C.prog W .any base t v) →
   DataW.Whole enc C.prog fn.params.toList s.vars apart W args.toList ds gs before →
   (DataW.weightsEach C.prog (fn.params.toList ++ s.plain.varTypes C.prog) (ds ++ gs)).all (· ≤ reachBytes) = true → X W args → W.ShapedOpen C.prog →
   Calls C.prog f args W fun e W' => ∃ v, e = .returned v ∧ s.post enc C.prog fn apart true false false W args v W') :
  ReturnsInHanded {} C os f .any (fun w args => (s.pre enc C.prog fn [] apart w args ∧ X w args) ∧ sizedMet enc C.prog fn (OpenSpec.ofChange s) apart w args) (s.post enc C.prog fn apart true false false) := by
 refine returnsInHanded_of_calls own started noInit witness ?_
 intro w tape i _ shape _ ok pre _
 obtain ⟨_, _, _, fn2, hfn2, _, _, _, _, val⟩ := ok
 cases Option.some.inj (hfn2.symm.trans hfn)
 obtain ⟨⟨⟨ds, gs, before, whole, _⟩, x⟩, sized⟩ := pre
 have whole2 := DataW.Whole.of_heap (w' := w.forCall tape i) (by rfl) whole
 have call := contract (w.forCall tape i) w.heap.size i.args ds gs before val whole2 (sized.weights whole) (hX _ _ _ (by rfl) x) shape
 exact call.mono fun e W' ⟨v, he, hp⟩ => by
  subst he
  exact ChangeSpec.post_blind hp
section
variable {H : Type} {enc : TypeId × Value → H} {W : World} {base : Nat} {sp : Nat → Bool} {held : Bool}
theorem kN {x : Int} (h : (Lit.int .i64 x).wf = true) : -9223372036854775808 ≤ x ∧ x ≤ 9223372036854775807 := by
 simp [Lit.wf, IntKind.min, IntKind.max, IntKind.signed, IntKind.bits] at h
 exact h
theorem yK {x : Int} (h : (Lit.int .u64 x).wf = true) : ∃ n : Nat, x = n ∧ n < 18446744073709551616 := by
 simp [Lit.wf, IntKind.min, IntKind.max, IntKind.signed, IntKind.bits] at h
 exact ⟨x.toNat, by omega, by omega⟩
theorem qfc : Tryz.prog.cellsOf 3 = 1 := by kernel_rfl
theorem qfd : Tryz.prog.cellsOf 53 = 1 := by kernel_rfl
theorem qfe : Tryz.prog.cellsOf 55 = 4 := by kernel_rfl
theorem XV : Tryz.prog.cellsOf 57 = 10 := by kernel_rfl
theorem qhG : Tryz.prog.bytesOf 57 = 80 := by kernel_rfl
theorem qhI {α : Type} (l : List α) (h : l.length = 10) : ∃ a b c d e f g i j k, l = [a, b, c, d, e, f, g, i, j, k] := by
 match l, h with
 | [a, b, c, d, e, f, g, i, j, k], _ => exact ⟨a, b, c, d, e, f, g, i, j, k, rfl⟩
theorem qaO {fuel : Nat} {cs : List Value} {y : DataW H × List MemPlace} (h : DataW.trod enc prog W base sp held fuel 57 cs = some y) : ∃ x : Nd, x.Fits ∧ cs = x.cells.toList := by
 obtain ⟨xs, k, _, _, hl, hxl, hf⟩ := DataW.trod_struct underlying57 h
 rw [XV] at hl
 obtain ⟨a, b, c, d, e, f, g, i, j, l, rfl⟩ := qhI cs hl
 have g0 := hf 0 _ rfl
 have g1 := hf 1 _ rfl
 have g2 := hf 2 _ rfl
 have g3 := hf 3 _ rfl
 have g4 := hf 4 _ rfl
 have g5 := hf 5 _ rfl
 have g6 := hf 6 _ rfl
 have kR : xs.length = 7 := hxl
 match xs, kR with
 | [y0, y1, y2, y3, y4, y5, y6], _ =>
  simp [qfc, qfe] at g0 g1 g2 g3 g4 g5 g6
  obtain ⟨z0, e0, _, w0⟩ := DataW.trod_int underlying3 g0
  obtain ⟨z2, e2, _, w2⟩ := DataW.trod_int underlying3 g2
  obtain ⟨z3, e3, _, w3⟩ := DataW.trod_int underlying3 g3
  obtain ⟨z4, e4, _, w4⟩ := DataW.trod_int underlying3 g4
  obtain ⟨z5, e5, _, w5⟩ := DataW.trod_int underlying3 g5
  obtain ⟨z6, e6, _, w6⟩ := DataW.trod_int underlying3 g6
  obtain ⟨u0, u1, u2, u3, m, _, hu0, hu1, hu2, hu3⟩ := trod_array4 underlying55 qfd g1
  obtain ⟨x0, f0, _, v0⟩ := DataW.trod_int underlying53 hu0
  obtain ⟨x1, f1, _, v1⟩ := DataW.trod_int underlying53 hu1
  obtain ⟨x2, f2, _, v2⟩ := DataW.trod_int underlying53 hu2
  obtain ⟨x3, f3, _, v3⟩ := DataW.trod_int underlying53 hu3
  simp at e0 e2 e3 e4 e5 e6 f0 f1 f2 f3
  subst e0 e2 e3 e4 e5 e6 f0 f1 f2 f3
  obtain ⟨n0, rfl, l0⟩ := yK v0
  obtain ⟨n1, rfl, l1⟩ := yK v1
  obtain ⟨n2, rfl, l2⟩ := yK v2
  obtain ⟨n3, rfl, l3⟩ := yK v3
  exact ⟨⟨z0, n0, n1, n2, n3, z2, z3, z4, z5, z6⟩, ⟨kN w0, l0, l1, l2, l3, kN w2, kN w3, kN w4, kN w5, kN w6⟩, rfl⟩
instance : Inhabited Nd := ⟨⟨0, 0, 0, 0, 0, 0, 0, 0, 0, 0⟩⟩
theorem Uu {a0 : Option Addr} {len cap : Nat} {d : DataW H} {ps : List MemPlace} (hd : DataW.Trod enc prog W base sp held 22 (.slice a0 len cap) d ps)
  (hw : ∀ el spare, d = .slice el spare → (el.length + spare.length) * 80 ≤ reachBytes) : ∃ xs, kS W a0 len xs := by
 obtain ⟨fuel, hf⟩ := hd
 rcases Deep.open_slice underlying22 hf with ⟨hcs, _⟩ | ⟨a, len', cap', m, n, D, Pl, hcs, _, hl, hm, hmm, hx, hel⟩
 ·simp [Value.cells] at hcs
  obtain ⟨rfl, rfl, rfl⟩ := hcs
  exact ⟨[], ⟨rfl, by omega, fun h => absurd h (by omega), fun h => absurd h (by omega), fun i x h => by simp at h⟩⟩
 ·simp [Value.cells] at hcs
  obtain ⟨rfl, rfl, rfl⟩ := hcs
  have hlm : len ≤ m := by rw [hmm]; split <;> omega
  have hr := hw _ _ (Prod.mk.inj hx).1
  simp only [List.length_map, List.length_range] at hr
  have hrb : reachBytes = 140737488351232 := by decide
  rw [hrb] at hr
  have each : ∀ i, i < len → ∃ x : Nd, x.Fits ∧ ∀ j : Nat, j < 10 → W.cell? (a.add (i * 10 + j)) = x.cells[j]? := fun i hi => by
   obtain ⟨cs', h1, h2⟩ := hel i (by omega)
   rw [XV] at h1
   obtain ⟨x, hxf, rfl⟩ := qaO h2
   obtain ⟨_, _, qu⟩ := World.cells?_some h1
   refine ⟨x, hxf, fun j hj => ?_⟩
   have := qu j hj
   rw [Deep.add_add] at this
   rw [this]
   simp
  obtain ⟨X, hX⟩ := Deep.choose_lt each
  refine ⟨(List.range len).map X, ⟨by simp, by omega, ?_, ?_, ?_⟩⟩
  ·intro h1
   obtain ⟨b, off, spot⟩ := a
   have h0 := (hX 0 (by omega)).2 0 (by omega)
   have qkk : spot = none := by simpa [Addr.add] using World.cell?_spot (h0.trans rfl)
   exact ⟨b, off, by rw [qkk]⟩
  ·intro h1 b o e
   obtain rfl : a = ⟨b, o, none⟩ := Option.some.inj e
   refine ⟨?_, fun i x hx j v hv => ?_⟩
   ·have h0 := (hX 0 (by omega)).2 0 (by omega)
    rw [add_plain] at h0
    exact World.lt_of_cell (h0.trans rfl)
   ·have hi : i < len := by
     have := (List.getElem?_eq_some_iff.1 hx).1
     simpa using this
    have hx' : X i = x := by simpa [hi] using hx
    have hj : j < 10 := by
     have := (Array.getElem?_eq_some_iff.1 hv).1
     simpa [Nd.cells] using this
    have := (hX i hi).2 j hj
    rw [add_plain, hx', hv] at this
    rw [Nat.add_assoc]
    exact this
  ·intro i x hx
   have hi : i < len := by
    have := (List.getElem?_eq_some_iff.1 hx).1
    simpa using this
   have hx' : X i = x := by simpa [hi] using hx
   rw [← hx']
   exact (hX i hi).1
end
end Go.Proofs.YtjgegohidhdbpaaGreatDoor
namespace Go.Proofs.YtjgegohidhdbpaaGreatDoor
open Go.RowKit Go.Lib
def yL (f : Nat → Bool) (p : Nat) (r : Int) : Prop := (r = -1 ∧ ∀ k, p ≤ k → f k = false) ∨ ∃ k : Nat, r = k ∧ p ≤ k ∧ f k = true ∧ ∀ j, p ≤ j → j < k → f j = false
def XW (f : Nat → Bool) (p : Int) (r : Int) : Prop := (r = -1 ∧ ∀ k : Nat, (k : Int) ≤ p → f k = false) ∨ ∃ k : Nat, r = k ∧ (k : Int) ≤ p ∧ f k = true ∧ ∀ j : Nat, k < j → (j : Int) ≤ p → f j = false
theorem qhJ (f : Nat → Bool) (b : Nat) : wd f (b / 64) ||| 2 ^ (b % 64) = wd (fun i => f i || i == b) (b / 64) := by
 apply Qw
 ·exact Nat.or_lt_two_pow (n := 64) (zQ f _) (Nat.pow_lt_pow_right (by decide) (by omega))
 ·intro i hi
  rw [Nat.testBit_or, jr f _ i hi, Nat.testBit_two_pow]
  congr 1
  by_cases e : i = b % 64
  ·subst e
   have : 64 * (b / 64) + b % 64 = b := by omega
   simp [this]
  ·have e2 : ¬ 64 * (b / 64) + i = b := by omega
   have e3 : ¬ b % 64 = i := fun h => e h.symm
   simp [e2, e3]
theorem qb7 (f : Nat → Bool) (b : Nat) : bits .or .u64 (wd f (b / 64) : Int) (IntKind.u64.wrap (2 ^ (b % 64))) = (wd (fun i => f i || i == b) (b / 64) : Int) := by
 have h2 : (2 : Nat) ^ (b % 64) < 18446744073709551616 := (Nat.pow_lt_pow_right (a := 2) (m := b % 64) (n := 64) (by decide) (by omega))
 rw [jZ (2 ^ (b % 64)) h2 _ (by simp), bits_or_u64_nat _ _ (zQ f _) h2, qhJ]
theorem qb8 (f : Nat → Bool) (b : Nat) : bits .and .u64 ((wd f (b / 64) : Int) / 2 ^ (b % 64)) 1 = ((f b).toNat : Int) := by
 have e : ((wd f (b / 64) : Int) / 2 ^ (b % 64)) = ((wd f (b / 64) / 2 ^ (b % 64) : Nat) : Int) := by simp
 have zb := zQ f (b / 64)
 have ZM : wd f (b / 64) / 2 ^ (b % 64) ≤ wd f (b / 64) := Nat.div_le_self _ _
 rw [u64_and (wd f (b / 64) / 2 ^ (b % 64)) 1 (by omega) (by omega) _ 1 e rfl, and1, Uv f _ _ (by omega), show 64 * (b / 64) + b % 64 = b by omega]
theorem qff (f g : Nat → Bool) (k : Nat) : bits .or .u64 (wd f k : Int) (wd g k : Int) = (wd (fun i => f i || g i) k : Int) := by
 rw [bits_or_u64_nat _ _ (zQ f _) (zQ g _), qkl]
theorem qaP (f : Nat → Bool) (p : Nat) : bits .and .u64 (wd f (p / 64) : Int) (IntKind.u64.wrap (18446744073709551615 * 2 ^ (p % 64))) = (wd (fun i => f i && decide (p ≤ i)) (p / 64) : Int) := by
 have hr : p % 64 < 64 := Nat.mod_lt _ (by omega)
 have h2 : (2 : Nat) ^ (p % 64) ≤ 18446744073709551615 := by
  have := Nat.pow_lt_pow_right (a := 2) (m := p % 64) (n := 64) (by decide) hr
  omega
 have hp : 0 < (2 : Nat) ^ (p % 64) := Nat.pow_pos (by decide)
 have hm : IntKind.u64.wrap (18446744073709551615 * 2 ^ (p % 64)) = ((18446744073709551616 - 2 ^ (p % 64) : Nat) : Int) := by
  rw [IntKind.wrap_u64]
  have e : (18446744073709551615 * 2 ^ (p % 64) : Int) = (((2 : Nat) ^ (p % 64) : Nat) : Int) * 18446744073709551616 - (((2 : Nat) ^ (p % 64) : Nat) : Int) := by
   rw [show ((2 : Int) ^ (p % 64)) = (((2 : Nat) ^ (p % 64) : Nat) : Int) by simp]; omega
  rw [e]
  omega
 rw [hm, u64_and _ (18446744073709551616 - 2 ^ (p % 64)) (zQ f _) (by omega) _ _ rfl rfl]
 refine congrArg (fun x : Nat => (x : Int)) ?_
 apply Qw
 ·exact Nat.lt_of_le_of_lt Nat.and_le_left (zQ f _)
 ·intro i hi
  rw [Nat.testBit_and, jr f _ i hi]
  congr 1
  have e : 18446744073709551616 - 2 ^ (p % 64) = 2 ^ 64 - ((2 ^ (p % 64) - 1) + 1) := by omega
  rw [e, Nat.testBit_two_pow_sub_succ (by omega), Nat.testBit_two_pow_sub_one]
  by_cases h : i < p % 64
  ·have : ¬ p ≤ 64 * (p / 64) + i := by omega
   simp [h, this]
  ·have : p ≤ 64 * (p / 64) + i := by omega
   simp [h, this, hi]
theorem qfg (f : Nat → Bool) (p : Nat) : bits .and .u64 (wd f (p / 64) : Int) (18446744073709551615 / 2 ^ (63 - p % 64)) = (wd (fun i => f i && decide (i ≤ p)) (p / 64) : Int) := by
 have hr : p % 64 < 64 := Nat.mod_lt _ (by omega)
 have hm : (18446744073709551615 / 2 ^ (63 - p % 64) : Int) = ((2 ^ (p % 64 + 1) - 1 : Nat) : Int) := by
  have e1 : (18446744073709551615 / 2 ^ (63 - p % 64) : Int) = ((18446744073709551615 / 2 ^ (63 - p % 64) : Nat) : Int) := by simp
  rw [e1]
  refine congrArg (fun x : Nat => (x : Int)) ?_
  apply Nat.eq_of_testBit_eq
  intro i
  rw [Nat.testBit_div_two_pow, show 18446744073709551615 = 2 ^ 64 - 1 by decide, Nat.testBit_two_pow_sub_one, Nat.testBit_two_pow_sub_one, decide_eq_decide]
  omega
 have zb : (2 : Nat) ^ (p % 64 + 1) - 1 < 18446744073709551616 := by
  have := Nat.pow_le_pow_right (n := 2) (i := p % 64 + 1) (j := 64) (by decide) (by omega)
  omega
 rw [hm, u64_and _ (2 ^ (p % 64 + 1) - 1) (zQ f _) zb _ _ rfl rfl]
 refine congrArg (fun x : Nat => (x : Int)) ?_
 apply Qw
 ·exact Nat.lt_of_le_of_lt Nat.and_le_left (zQ f _)
 ·intro i hi
  rw [Nat.testBit_and, jr f _ i hi, Nat.testBit_two_pow_sub_one]
  congr 1
  rw [decide_eq_decide]
  omega
theorem GQ {f : Nat → Bool} {k : Nat} (h : wd f k = 0) : ∀ i, 64 * k ≤ i → i < 64 * (k + 1) → f i = false := fun i h1 h2 => by
 have := jr f k (i - 64 * k) (by omega)
 rw [h, Nat.zero_testBit, show 64 * k + (i - 64 * k) = i by omega] at this
 exact this.symm
theorem qb9 {f : Nat → Bool} {k : Nat} (h : wd f k ≠ 0) : Lib.ctz 64 (wd f k) < 64 ∧ f (64 * k + Lib.ctz 64 (wd f k)) = true ∧ ∀ i, 64 * k ≤ i → i < 64 * k + Lib.ctz 64 (wd f k) → f i = false := by
 obtain ⟨h1, h2, h3⟩ := YL (zQ f k) h
 refine ⟨h1, by rw [← jr f k _ h1]; exact h2, fun i h4 h5 => ?_⟩
 have := jr f k (i - 64 * k) (by omega)
 rw [h3 _ (by omega), show 64 * k + (i - 64 * k) = i by omega] at this
 exact this.symm
theorem GR {f : Nat → Bool} {k : Nat} (h : wd f k ≠ 0) : ∃ r, Lib.bitLen (wd f k) = r + 1 ∧ r < 64 ∧ f (64 * k + r) = true ∧ ∀ i, 64 * k + r < i → i < 64 * (k + 1) → f i = false := by
 have zb := zQ f k
 obtain ⟨h1, h2, h3⟩ := bitLenAux_bounds 64 (wd f k) zb h
 have e : Lib.bitLen (wd f k) = bitLenAux 64 (wd f k) := rfl
 rw [← e] at h1 h2 h3
 obtain ⟨r, hr⟩ : ∃ r, Lib.bitLen (wd f k) = r + 1 := ⟨Lib.bitLen (wd f k) - 1, by omega⟩
 rw [hr, Nat.add_sub_cancel] at h2
 rw [hr] at h3
 have qaQ : r < 64 := by
  rcases Nat.lt_or_ge r 64 with q | q
  ·exact q
  ·have := Nat.pow_le_pow_right (n := 2) (i := 64) (j := r) (by decide) q
   omega
 have hbit : (wd f k).testBit r = true := by
  rw [Nat.testBit_eq_decide_div_mod_eq, decide_eq_true_iff]
  have hq : wd f k / 2 ^ r = 1 := by
   have a1 : 1 ≤ wd f k / 2 ^ r := (Nat.le_div_iff_mul_le (Nat.pow_pos (by decide))).2 (by omega)
   have a2 : wd f k / 2 ^ r < 2 := (Nat.div_lt_iff_lt_mul (Nat.pow_pos (by decide))).2 (by rw [Nat.pow_succ] at h3; omega)
   omega
  rw [hq]
 refine ⟨r, hr, qaQ, by rw [← jr f k r qaQ]; exact hbit, fun i h4 h5 => ?_⟩
 have := jr f k (i - 64 * k) (by omega)
 rw [show 64 * k + (i - 64 * k) = i by omega] at this
 rw [← this]
 exact Nat.testBit_lt_two_pow (Nat.lt_of_lt_of_le h3 (Nat.pow_le_pow_right (by decide) (by omega)))
theorem qca {f : Nat → Bool} {p k : Nat} (hb : ∀ i, p ≤ i → i < 64 * k → f i = false) (h : wd (fun i => f i && decide (p ≤ i)) k ≠ 0) : yL f p (64 * (k : Int) + (Lib.ctz 64 (wd (fun i => f i && decide (p ≤ i)) k) : Int)) := by
 obtain ⟨h1, h2, h3⟩ := qb9 h
 simp only [Bool.and_eq_true, decide_eq_true_iff] at h2
 refine .inr ⟨64 * k + Lib.ctz 64 (wd (fun i => f i && decide (p ≤ i)) k), by omega, h2.2, h2.1, fun j j1 j2 => ?_⟩
 rcases Nat.lt_or_ge j (64 * k) with q | q
 ·exact hb j j1 q
 ·have := h3 j q j2
  simpa [j1] using this
theorem qaR {f : Nat → Bool} {p k : Nat} (hb : ∀ i, p ≤ i → i < 64 * k → f i = false) (h : wd (fun i => f i && decide (p ≤ i)) k = 0) : ∀ i, p ≤ i → i < 64 * (k + 1) → f i = false := fun i h1 h2 => by
 rcases Nat.lt_or_ge i (64 * k) with q | q
 ·exact hb i h1 q
 ·have := GQ h i q h2
  simpa [h1] using this
theorem qcb {f : Nat → Bool} {p k : Nat} (h : p ≤ 64 * k) : wd (fun i => f i && decide (p ≤ i)) k = wd f k := kE fun i hi => by
 have : p ≤ 64 * k + i := by omega
 simp [this]
theorem qhK {f : Nat → Bool} {p k : Nat} (hb : ∀ i, 64 * (k + 1) ≤ i → i ≤ p → f i = false) (h : wd (fun i => f i && decide (i ≤ p)) k ≠ 0) : XW f p (64 * (k : Int) + (Lib.bitLen (wd (fun i => f i && decide (i ≤ p)) k) : Int) - 1) := by
 obtain ⟨r, h0, h1, h2, h3⟩ := GR h
 simp only [Bool.and_eq_true, decide_eq_true_iff] at h2
 refine .inr ⟨64 * k + r, by omega, by omega, h2.1, fun j j1 j2 => ?_⟩
 rcases Nat.lt_or_ge j (64 * (k + 1)) with q | q
 ·have := h3 j j1 q
  have j3 : j ≤ p := by omega
  simpa [j3] using this
 ·exact hb j q (by omega)
theorem qfh {f : Nat → Bool} {p k : Nat} (hb : ∀ i, 64 * (k + 1) ≤ i → i ≤ p → f i = false) (h : wd (fun i => f i && decide (i ≤ p)) k = 0) : ∀ i, 64 * k ≤ i → i ≤ p → f i = false := fun i h1 h2 => by
 rcases Nat.lt_or_ge i (64 * (k + 1)) with q | q
 ·have := GQ h i h1 q
  simpa [h2] using this
 ·exact hb i q h2
theorem qcc {f : Nat → Bool} {p k : Nat} (h : 64 * (k + 1) ≤ p + 1) : wd (fun i => f i && decide (i ≤ p)) k = wd f k := kE fun i hi => by
 have : 64 * k + i ≤ p := by omega
 simp [this]
end Go.Proofs.YtjgegohidhdbpaaGreatDoor
