/- What lifts the walks of stage 3: the listed variables; a slice of nodes among the arguments. -/
import Derived.Test.YtjnedhjpgefbpaaGreatDoorZRxTr
import Derived.Test.YtjnedhjpgefbpaaGreatDoorTie
import Derived.Test.YtjnedhjpgefbpaaGreatDoorCards
import Derived.ProofKit
import Derived.LaidMore
import Derived.OpenShut
import Derived.Stop.Joined
import Derived.Lib.LaidTab
import Derived.Lib.LaidU8
import Derived.SevenTiedAt
import Derived.Laws.IdiomArrays
import Derived.Deep.Slices
import Derived.SizedLaws
import Derived.Shelf.Vars
import Derived.Carry
namespace Go.Proofs.YtjnedhjpgefbpaaGreatDoor
open Go.ChangeShapes Go.WideShapes Go.ChangeAt Go.RowKit
set_option linter.unusedVariables false
set_option linter.unusedSimpArgs false

theorem own : ownKnob Tryz.prog.godebug = none := by kernel_rfl
theorem laidOut : laidOutB Tryz.prog = true := by kernel_rfl
def laid3 : List (String × DataW Unit) := [("math/bits.deBruijn32tab", Rows.laid_math_bits_deBruijn32tab), ("math/bits.deBruijn64tab", Rows.laid_math_bits_deBruijn64tab), ("internal/strconv.uint64pow10", Rows.laid_internal_strconv_uint64pow10), ("strconv.ErrRange", Rows.laid_strconv_ErrRange), ("strconv.ErrSyntax", Rows.laid_strconv_ErrSyntax)]

/-- The door's own heap meets the condition: closed facts. -/
theorem door_met (os : Os) (args : Array Value) : laidMetH Tryz.prog laid3 ((World.doorLaid Tryz.prog 400 os).forCall (fun _ _ => 0) ⟨#[], args, []⟩).memory :=
  laidMetH_of_parts3 (fuel := 8) (laidMet_of_run' 8 (by kernel_rfl) (by kernel_rfl)) (by kernel_rfl) (by kernel_rfl)

theorem data64 : (Rows.laid_math_bits_deBruijn64tab : DataW Unit) = Lib.tabData .u8 (Lib.deBruijn64tab.map (fun k : Nat => (k : Int))) := by
  simp [Rows.laid_math_bits_deBruijn64tab, Lib.tabData, Lib.deBruijn64tab]
theorem dataPow : (Rows.laid_internal_strconv_uint64pow10 : DataW Unit) = Lib.tabData .u64 Lib.pow10Tab := by
  simp [Rows.laid_internal_strconv_uint64pow10, Lib.tabData, Lib.pow10Tab, show List.range 20 = [0, 1, 2, 3, 4, 5, 6, 7, 8, 9, 10, 11, 12, 13, 14, 15, 16, 17, 18, 19] from rfl]

theorem tab_of_reads {W : World} {name : String} {g : Nat} {t e : TypeId} {n : Nat} {k : IntKind} {zs : List Int} (hg : Tryz.prog.globalNamed name = some g) (hty : (Tryz.prog.globals[g]?).map (·.type) = some t)
    (ht : Tryz.prog.underlying t = some (.array n e)) (he : Tryz.prog.underlying e = some (.int k)) (hce : Tryz.prog.cellsOf e = 1) (hct : Tryz.prog.cellsOf t = n) (h : Lib.VarReads Tryz.prog W name (Lib.tabData k zs)) : Lib.TabIs Tryz.prog W name k zs := by
  obtain ⟨g', t', cs, fuel, p, h1, h2, h3, h4⟩ := h
  obtain rfl := Option.some.inj (hg.symm.trans h1)
  obtain rfl := Option.some.inj (hty.symm.trans h2)
  unfold Lib.TabIs
  rw [h3, ← Lib.cells_of_tab ht he hce hct h4]
theorem err_of_reads {W : World} {name nm : String} {g : Nat} {t : TypeId} {ms : Array (String × TypeId)} {d : DataW Unit} (hg : Tryz.prog.globalNamed name = some g) (hty : (Tryz.prog.globals[g]?).map (·.type) = some t)
    (ht : Tryz.prog.underlying t = some (.interface ms)) (h : Lib.VarReads Tryz.prog W name (.iface nm d)) : ∃ tp p, W.var? Tryz.prog name = some #[.iface tp p] := by
  obtain ⟨g', t', cs, fuel, p, h1, h2, h3, h4⟩ := h
  obtain rfl := Option.some.inj (hg.symm.trans h1)
  obtain rfl := Option.some.inj (hty.symm.trans h2)
  obtain ⟨_, u, v, hcs, _, _⟩ := iface_of_trod ht h4
  refine ⟨u, v, ?_⟩
  rw [h3]
  obtain ⟨l⟩ := cs
  simp only at hcs
  rw [hcs]

theorem fit_of_laid {W : World} (h : laidMetH Tryz.prog laid3 W) (hsh : W.ShapedOpen Tryz.prog) : Fit4 W := by
  rw [MakeChecks.laidMetH_plain _ _ _ (by kernel_rfl)] at h
  have r1 := Lib.laidMet.reads h (n := "math/bits.deBruijn64tab") (d := Rows.laid_math_bits_deBruijn64tab) (by simp [laid3])
  have r2 := Lib.laidMet.reads h (n := "internal/strconv.uint64pow10") (d := Rows.laid_internal_strconv_uint64pow10) (by simp [laid3])
  have r3 := Lib.laidMet.reads h (n := "strconv.ErrRange") (d := Rows.laid_strconv_ErrRange) (by simp [laid3])
  have r4 := Lib.laidMet.reads h (n := "strconv.ErrSyntax") (d := Rows.laid_strconv_ErrSyntax) (by simp [laid3])
  rw [data64] at r1
  rw [dataPow] at r2
  have gTab : Tryz.prog.globalNamed "math/bits.deBruijn64tab" = some 0 := by kernel_rfl
  have ht := tab_of_reads gTab (by kernel_rfl) Tryz.underlying106 Tryz.underlying5 (by kernel_rfl) (by kernel_rfl) r1
  have hc : TabAt 0 Lib.deBruijn64tab W := fun j hj => by
    rw [World.var?_cell gTab ht j]
    simp [List.getD, List.getElem?_eq_getElem hj]
  have gPow : ∃ g, Tryz.prog.globalNamed "internal/strconv.uint64pow10" = some g := Option.isSome_iff_exists.1 (by kernel_rfl)
  refine ⟨⟨⟨hc, cell_lt (hc 0 (by decide))⟩, ?_⟩, ⟨?_, ?_, ?_⟩⟩
  · exact tab_of_reads (g := 1) (by kernel_rfl) (by kernel_rfl) Tryz.underlying111 Tryz.underlying42 (by kernel_rfl) (by kernel_rfl) r2
  · exact cell_of_shapedOpen_int (P := Tryz.prog) (g := 2) (t := 3) (zero := #[.int .i64 0]) hsh (of_decide_eq_true (by kernel_rfl)) (by kernel_rfl) rfl (by kernel_rfl) (by kernel_rfl) Tryz.underlying3
  · exact err_of_reads (g := 4) (by kernel_rfl) (by kernel_rfl) Tryz.underlying96 r4
  · exact err_of_reads (g := 5) (by kernel_rfl) (by kernel_rfl) Tryz.underlying96 r3

/-- The form of a law's claim, out of a contract that is told the listed variables and the world's shape. -/
theorem form_of_contract {H : Type} {enc : TypeId × Value → H} {C : Checked} {os : Os} {f : FuncId} {fn : Func} {s : ChangeSpec} {apart : Bool} {X : World → Array Value → Prop}
    (hX : ∀ (w w' : World) (args : Array Value), w.heap = w'.heap → X w args → X w' args)
    (own : ownKnob C.prog.godebug = none) (started : os.Started) (noInit : C.prog.inits.idxOf? f = none) (hfn : C.prog.funcs[f]? = some fn)
    (witness : ∃ (w : World) (tape : Tape) (i : Input), w.os = os ∧ (w.forCall tape i).Shaped C.prog ∧ i.vars = [] ∧ Input.okWide C.prog (w.forCall tape i) .any w.heap.size f i ∧
      ((s.pre enc C.prog fn [] apart (w.forCall tape i).memory i.args ∧ X (w.forCall tape i).memory i.args) ∧ sizedMet enc C.prog fn (OpenSpec.ofChange s) apart (w.forCall tape i).memory i.args) ∧ Assume.holds {} C.prog (lone (Frame.enter C.prog f i.args .normal) [] (w.forCall tape i)))
    (contract : ∀ (W : World) (base : Nat) (args : Array Value) (ds gs : List (DataW H)) (before : List MemPlace),
      (∀ (j : Nat) t v, fn.params[j]? = some t → args[j]? = some v → Value.okWide C.prog W .any base t v) →
      DataW.Whole enc C.prog fn.params.toList s.vars apart W args.toList ds gs before →
      (DataW.weightsEach C.prog (fn.params.toList ++ s.plain.varTypes C.prog) (ds ++ gs)).all (· ≤ reachBytes) = true → X W args → W.ShapedOpen C.prog →
      Calls C.prog f args W fun e W' => ∃ v, e = .returned v ∧ s.post enc C.prog fn apart true false false W args v W') :
    ReturnsInHanded {} C os f .any (fun w args => (s.pre enc C.prog fn [] apart w args ∧ X w args) ∧ sizedMet enc C.prog fn (OpenSpec.ofChange s) apart w args) (s.post enc C.prog fn apart true false false) := by
  refine returnsInHanded_of_calls own started noInit witness ?_
  intro w tape i _ shape _ ok pre _
  obtain ⟨_, _, _, fn2, hfn2, _, _, _, _, val⟩ := ok
  cases Option.some.inj (hfn2.symm.trans hfn)
  obtain ⟨⟨⟨ds, gs, before, whole, _⟩, x⟩, sized⟩ := pre
  have whole2 := DataW.Whole.of_heap (w' := w.forCall tape i) (by rfl) whole
  have call := contract (w.forCall tape i) w.heap.size i.args ds gs before val whole2 (sized.weights whole) (hX _ _ _ (by rfl) x) shape
  exact call.mono fun e W' ⟨v, he, hp⟩ => by
    subst he
    exact ChangeSpec.post_blind hp

section
variable {H : Type} {enc : TypeId × Value → H} {W : World} {base : Nat} {sp : Nat → Bool} {held : Bool}

theorem int_of_wf {x : Int} (h : (Lit.int .i64 x).wf = true) : -9223372036854775808 ≤ x ∧ x ≤ 9223372036854775807 := by
  simp [Lit.wf, IntKind.min, IntKind.max, IntKind.signed, IntKind.bits] at h
  exact h
theorem word_of_wf {x : Int} (h : (Lit.int .u64 x).wf = true) : ∃ n : Nat, x = n ∧ n < 18446744073709551616 := by
  simp [Lit.wf, IntKind.min, IntKind.max, IntKind.signed, IntKind.bits] at h
  exact ⟨x.toNat, by omega, by omega⟩
theorem cellsI1 : Tryz.prog.cellsOf 3 = 1 := by kernel_rfl
theorem cellsU1 : Tryz.prog.cellsOf 42 = 1 := by kernel_rfl
theorem cellsS4 : Tryz.prog.cellsOf 44 = 4 := by kernel_rfl
theorem cellsN10 : Tryz.prog.cellsOf 46 = 10 := by kernel_rfl
theorem bytesN : Tryz.prog.bytesOf 46 = 80 := by kernel_rfl

theorem list10 {α : Type} (l : List α) (h : l.length = 10) : ∃ a b c d e f g i j k, l = [a, b, c, d, e, f, g, i, j, k] := by
  match l, h with
  | [a, b, c, d, e, f, g, i, j, k], _ => exact ⟨a, b, c, d, e, f, g, i, j, k, rfl⟩

set_option maxRecDepth 100000 in
set_option maxHeartbeats 1000000 in
/-- What reads as a node is one. -/
theorem open_node {fuel : Nat} {cs : List Value} {y : DataW H × List MemPlace} (h : DataW.trod enc Tryz.prog W base sp held fuel 46 cs = some y) : ∃ x : Nd, x.Fits ∧ cs = x.cells.toList := by
  obtain ⟨xs, k, _, _, hl, hxl, hf⟩ := DataW.trod_struct Tryz.underlying46 h
  rw [cellsN10] at hl
  obtain ⟨a, b, c, d, e, f, g, i, j, l, rfl⟩ := list10 cs hl
  have g0 := hf 0 _ rfl
  have g1 := hf 1 _ rfl
  have g2 := hf 2 _ rfl
  have g3 := hf 3 _ rfl
  have g4 := hf 4 _ rfl
  have g5 := hf 5 _ rfl
  have g6 := hf 6 _ rfl
  have hsz : xs.length = 7 := hxl
  match xs, hsz with
  | [y0, y1, y2, y3, y4, y5, y6], _ =>
    simp [cellsI1, cellsS4] at g0 g1 g2 g3 g4 g5 g6
    obtain ⟨z0, e0, _, w0⟩ := DataW.trod_int Tryz.underlying3 g0
    obtain ⟨z2, e2, _, w2⟩ := DataW.trod_int Tryz.underlying3 g2
    obtain ⟨z3, e3, _, w3⟩ := DataW.trod_int Tryz.underlying3 g3
    obtain ⟨z4, e4, _, w4⟩ := DataW.trod_int Tryz.underlying3 g4
    obtain ⟨z5, e5, _, w5⟩ := DataW.trod_int Tryz.underlying3 g5
    obtain ⟨z6, e6, _, w6⟩ := DataW.trod_int Tryz.underlying3 g6
    obtain ⟨u0, u1, u2, u3, m, _, hu0, hu1, hu2, hu3⟩ := trod_array4 Tryz.underlying44 cellsU1 g1
    obtain ⟨x0, f0, _, v0⟩ := DataW.trod_int Tryz.underlying42 hu0
    obtain ⟨x1, f1, _, v1⟩ := DataW.trod_int Tryz.underlying42 hu1
    obtain ⟨x2, f2, _, v2⟩ := DataW.trod_int Tryz.underlying42 hu2
    obtain ⟨x3, f3, _, v3⟩ := DataW.trod_int Tryz.underlying42 hu3
    simp at e0 e2 e3 e4 e5 e6 f0 f1 f2 f3
    subst e0 e2 e3 e4 e5 e6 f0 f1 f2 f3
    obtain ⟨n0, rfl, l0⟩ := word_of_wf v0
    obtain ⟨n1, rfl, l1⟩ := word_of_wf v1
    obtain ⟨n2, rfl, l2⟩ := word_of_wf v2
    obtain ⟨n3, rfl, l3⟩ := word_of_wf v3
    exact ⟨⟨z0, n0, n1, n2, n3, z2, z3, z4, z5, z6⟩, ⟨int_of_wf w0, l0, l1, l2, l3, int_of_wf w2, int_of_wf w3, int_of_wf w4, int_of_wf w5, int_of_wf w6⟩, rfl⟩

instance : Inhabited Nd := ⟨⟨0, 0, 0, 0, 0, 0, 0, 0, 0, 0⟩⟩

set_option maxRecDepth 100000 in
set_option maxHeartbeats 1000000 in
/-- A slice of nodes as it is handed over. -/
theorem open_nodes {a0 : Option Addr} {len cap : Nat} {d : DataW H} {ps : List MemPlace} (hd : DataW.Trod enc Tryz.prog W base sp held 23 (.slice a0 len cap) d ps)
    (hw : ∀ el spare, d = .slice el spare → (el.length + spare.length) * 80 ≤ reachBytes) : ∃ xs, Nodes W a0 len xs := by
  obtain ⟨fuel, hf⟩ := hd
  rcases Deep.open_slice Tryz.underlying23 hf with ⟨hcs, _⟩ | ⟨a, len', cap', m, n, D, Pl, hcs, _, hl, hm, hmm, hx, hel⟩
  · simp [Value.cells] at hcs
    obtain ⟨rfl, rfl, rfl⟩ := hcs
    exact ⟨[], ⟨rfl, by omega, fun h => absurd h (by omega), fun h => absurd h (by omega), fun i x h => by simp at h⟩⟩
  · simp [Value.cells] at hcs
    obtain ⟨rfl, rfl, rfl⟩ := hcs
    have hlm : len ≤ m := by rw [hmm]; split <;> omega
    have hr := hw _ _ (Prod.mk.inj hx).1
    simp only [List.length_map, List.length_range] at hr
    have hrb : reachBytes = 140737488351232 := by decide
    rw [hrb] at hr
    have each : ∀ i, i < len → ∃ x : Nd, x.Fits ∧ ∀ j : Nat, j < 10 → W.cell? (a.add (i * 10 + j)) = x.cells[j]? := fun i hi => by
      obtain ⟨cs', h1, h2⟩ := hel i (by omega)
      rw [cellsN10] at h1
      obtain ⟨x, hxf, rfl⟩ := open_node h2
      obtain ⟨_, _, hcell⟩ := World.cells?_some h1
      refine ⟨x, hxf, fun j hj => ?_⟩
      have := hcell j hj
      rw [Deep.add_add] at this
      rw [this]
      simp
    obtain ⟨X, hX⟩ := Deep.choose_lt each
    refine ⟨(List.range len).map X, ⟨by simp, by omega, ?_, ?_, ?_⟩⟩
    · intro h1
      obtain ⟨b, off, spot⟩ := a
      have h0 := (hX 0 (by omega)).2 0 (by omega)
      have hspot : spot = none := by simpa [Addr.add] using World.cell?_spot (h0.trans rfl)
      exact ⟨b, off, by rw [hspot]⟩
    · intro h1 b o e
      obtain rfl : a = ⟨b, o, none⟩ := Option.some.inj e
      refine ⟨?_, fun i x hx j v hv => ?_⟩
      · have h0 := (hX 0 (by omega)).2 0 (by omega)
        rw [add_plain] at h0
        exact World.lt_of_cell (h0.trans rfl)
      · have hi : i < len := by
          have := (List.getElem?_eq_some_iff.1 hx).1
          simpa using this
        have hx' : X i = x := by simpa [hi] using hx
        have hj : j < 10 := by
          have := (Array.getElem?_eq_some_iff.1 hv).1
          simpa [Nd.cells] using this
        have := (hX i hi).2 j hj
        rw [add_plain, hx', hv] at this
        rw [Nat.add_assoc]
        exact this
    · intro i x hx
      have hi : i < len := by
        have := (List.getElem?_eq_some_iff.1 hx).1
        simpa using this
      have hx' : X i = x := by simpa [hi] using hx
      rw [← hx']
      exact (hX i hi).1
end

end Go.Proofs.YtjnedhjpgefbpaaGreatDoor
