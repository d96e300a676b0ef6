/- What lifts the walks of stage 11: the listed variables; addresses, ranges, lines, bools, bytes among the arguments. -/
import Derived.Test.YtaamhjjdhebjfaaGreatDoorAdU
import Derived.Test.YtaamhjjdhebjfaaGreatDoorTie
import Derived.Test.YtaamhjjdhebjfaaGreatDoorCards
import Derived.ProofKit
import Derived.LaidMore
import Derived.OpenShut
import Derived.Stop.Joined
import Derived.Lib.LaidTab
import Derived.Lib.LaidU8
import Derived.SevenTiedAt
import Derived.Laws.IdiomArrays
import Derived.Deep.Slices
import Derived.SizedLaws
import Derived.Shelf.Vars
import Derived.Carry
namespace Go.Proofs.YtaamhjjdhebjfaaGreatDoor
open Go.ChangeShapes Go.WideShapes Go.ChangeAt Go.RowKit
set_option linter.unusedVariables false
set_option linter.unusedSimpArgs false

theorem own : ownKnob Tryz.prog.godebug = none := by kernel_rfl
theorem laidOut : laidOutB Tryz.prog = true := by kernel_rfl
def laid3 : List (String × DataW Unit) := [("math/bits.deBruijn32tab", Rows.laid_math_bits_deBruijn32tab), ("math/bits.deBruijn64tab", Rows.laid_math_bits_deBruijn64tab), ("internal/strconv.uint64pow10", Rows.laid_internal_strconv_uint64pow10), ("unicode/utf8.acceptRanges", Rows.laid_unicode_utf8_acceptRanges), ("strconv.ErrRange", Rows.laid_strconv_ErrRange), ("strconv.ErrSyntax", Rows.laid_strconv_ErrSyntax), ("unicode/utf8.first", Rows.laid_unicode_utf8_first)]

/-- The door's own heap, with the table that the library's own text fixes. -/
noncomputable def startW (os : Os) : World :=
  { World.doorLaid Tryz.prog 400 os with heap := (World.doorLaid Tryz.prog 400 os).heap.modify 4 fun
    | .cells _ t frozen => .cells (Lib.firstTab.map fun z => Value.int .u8 z).toArray t frozen
    | o => o }
/-- It meets the condition: closed facts. -/
theorem door_met (os : Os) (args : Array Value) : laidMetH Tryz.prog laid3 ((startW os).forCall (fun _ _ => 0) ⟨#[], args, []⟩).memory :=
  laidMetH_of_parts3 (fuel := 8) (laidMet_of_run' 8 (by kernel_rfl) (by kernel_rfl)) (by kernel_rfl) (by kernel_rfl)

theorem dataPow : (Rows.laid_internal_strconv_uint64pow10 : DataW Unit) = Lib.tabData .u64 Lib.pow10Tab := by
  simp [Rows.laid_internal_strconv_uint64pow10, Lib.tabData, Lib.pow10Tab, show List.range 20 = [0, 1, 2, 3, 4, 5, 6, 7, 8, 9, 10, 11, 12, 13, 14, 15, 16, 17, 18, 19] from rfl]

theorem tab_of_reads {W : World} {name : String} {g : Nat} {t e : TypeId} {n : Nat} {k : IntKind} {zs : List Int} (hg : Tryz.prog.globalNamed name = some g) (hty : (Tryz.prog.globals[g]?).map (·.type) = some t)
    (ht : Tryz.prog.underlying t = some (.array n e)) (he : Tryz.prog.underlying e = some (.int k)) (hce : Tryz.prog.cellsOf e = 1) (hct : Tryz.prog.cellsOf t = n) (h : Lib.VarReads Tryz.prog W name (Lib.tabData k zs)) : Lib.TabIs Tryz.prog W name k zs := by
  obtain ⟨g', t', cs, fuel, p, h1, h2, h3, h4⟩ := h
  obtain rfl := Option.some.inj (hg.symm.trans h1)
  obtain rfl := Option.some.inj (hty.symm.trans h2)
  unfold Lib.TabIs
  rw [h3, ← Lib.cells_of_tab ht he hce hct h4]
theorem err_of_reads {W : World} {name nm : String} {g : Nat} {t : TypeId} {ms : Array (String × TypeId)} {d : DataW Unit} (hg : Tryz.prog.globalNamed name = some g) (hty : (Tryz.prog.globals[g]?).map (·.type) = some t)
    (ht : Tryz.prog.underlying t = some (.interface ms)) (h : Lib.VarReads Tryz.prog W name (.iface nm d)) : ∃ tp p, W.var? Tryz.prog name = some #[.iface tp p] := by
  obtain ⟨g', t', cs, fuel, p, h1, h2, h3, h4⟩ := h
  obtain rfl := Option.some.inj (hg.symm.trans h1)
  obtain rfl := Option.some.inj (hty.symm.trans h2)
  obtain ⟨_, u, v, hcs, _, _⟩ := iface_of_trod ht h4
  refine ⟨u, v, ?_⟩
  rw [h3]
  obtain ⟨l⟩ := cs
  simp only at hcs
  rw [hcs]

theorem fit_of_laid {W : World} (h : laidMetH Tryz.prog laid3 W) (hsh : W.ShapedOpen Tryz.prog) : Fit6 W := by
  rw [MakeChecks.laidMetH_plain _ _ _ (by kernel_rfl)] at h
  have r2 := Lib.laidMet.reads h (n := "internal/strconv.uint64pow10") (d := Rows.laid_internal_strconv_uint64pow10) (by simp [laid3])
  have r3 := Lib.laidMet.reads h (n := "strconv.ErrRange") (d := Rows.laid_strconv_ErrRange) (by simp [laid3])
  have r4 := Lib.laidMet.reads h (n := "strconv.ErrSyntax") (d := Rows.laid_strconv_ErrSyntax) (by simp [laid3])
  rw [dataPow] at r2
  refine ⟨?_, ?_, ?_, ?_⟩
  · exact cell_of_shapedOpen_int (P := Tryz.prog) (g := 0) (t := 3) (zero := #[.int .i64 0]) hsh (of_decide_eq_true (by kernel_rfl)) (by kernel_rfl) rfl (by kernel_rfl) (by kernel_rfl) Tryz.underlying3
  · exact err_of_reads (g := 2) (by kernel_rfl) (by kernel_rfl) Tryz.underlying92 r4
  · exact err_of_reads (g := 3) (by kernel_rfl) (by kernel_rfl) Tryz.underlying92 r3
  · exact tab_of_reads (g := 1) (by kernel_rfl) (by kernel_rfl) Tryz.underlying119 Tryz.underlying80 (by kernel_rfl) (by kernel_rfl) r2

/-- The form of a law's claim, out of a contract that is told the listed variables and the world's shape. -/
theorem form_of_contract {H : Type} {enc : TypeId × Value → H} {C : Checked} {os : Os} {f : FuncId} {fn : Func} {s : ChangeSpec} {apart : Bool} {X : World → Array Value → Prop}
    (hX : ∀ (w w' : World) (args : Array Value), w.heap = w'.heap → X w args → X w' args)
    (own : ownKnob C.prog.godebug = none) (started : os.Started) (noInit : C.prog.inits.idxOf? f = none) (hfn : C.prog.funcs[f]? = some fn)
    (witness : ∃ (w : World) (tape : Tape) (i : Input), w.os = os ∧ (w.forCall tape i).Shaped C.prog ∧ i.vars = [] ∧ Input.okWide C.prog (w.forCall tape i) .any w.heap.size f i ∧
      ((s.pre enc C.prog fn [] apart (w.forCall tape i).memory i.args ∧ X (w.forCall tape i).memory i.args) ∧ sizedMet enc C.prog fn (OpenSpec.ofChange s) apart (w.forCall tape i).memory i.args) ∧ Assume.holds {} C.prog (lone (Frame.enter C.prog f i.args .normal) [] (w.forCall tape i)))
    (contract : ∀ (W : World) (base : Nat) (args : Array Value) (ds gs : List (DataW H)) (before : List MemPlace),
      (∀ (j : Nat) t v, fn.params[j]? = some t → args[j]? = some v → Value.okWide C.prog W .any base t v) →
      DataW.Whole enc C.prog fn.params.toList s.vars apart W args.toList ds gs before →
      (DataW.weightsEach C.prog (fn.params.toList ++ s.plain.varTypes C.prog) (ds ++ gs)).all (· ≤ reachBytes) = true → X W args → W.ShapedOpen C.prog →
      Calls C.prog f args W fun e W' => ∃ v, e = .returned v ∧ s.post enc C.prog fn apart true false false W args v W') :
    ReturnsInHanded {} C os f .any (fun w args => (s.pre enc C.prog fn [] apart w args ∧ X w args) ∧ sizedMet enc C.prog fn (OpenSpec.ofChange s) apart w args) (s.post enc C.prog fn apart true false false) := by
  refine returnsInHanded_of_calls own started noInit witness ?_
  intro w tape i _ shape _ ok pre _
  obtain ⟨_, _, _, fn2, hfn2, _, _, _, _, val⟩ := ok
  cases Option.some.inj (hfn2.symm.trans hfn)
  obtain ⟨⟨⟨ds, gs, before, whole, _⟩, x⟩, sized⟩ := pre
  have whole2 := DataW.Whole.of_heap (w' := w.forCall tape i) (by rfl) whole
  have call := contract (w.forCall tape i) w.heap.size i.args ds gs before val whole2 (sized.weights whole) (hX _ _ _ (by rfl) x) shape
  exact call.mono fun e W' ⟨v, he, hp⟩ => by
    subst he
    exact ChangeSpec.post_blind hp

theorem byte_of_wf {x : Int} (h : (Lit.int .u8 x).wf = true) : ∃ n : Nat, x = n ∧ n < 256 := by
  simp [Lit.wf, IntKind.min, IntKind.max, IntKind.signed, IntKind.bits] at h
  exact ⟨x.toNat, by omega, by omega⟩
theorem cellsA3 : Tryz.prog.cellsOf 23 = 3 := by kernel_rfl
theorem cellsR7 : Tryz.prog.cellsOf 25 = 7 := by kernel_rfl
theorem cellsL3 : Tryz.prog.cellsOf 48 = 3 := by kernel_rfl
theorem cellsBs : Tryz.prog.cellsOf 46 = 1 := by kernel_rfl
section
variable {H : Type} {enc : TypeId × Value → H} {W : World} {base b0 : Nat} {sp : Nat → Bool} {held : Bool} {r : Reach}

set_option maxRecDepth 100000 in
theorem open_byte {v : Value} {d : DataW H} {ps : List MemPlace} (hval : Value.okWide Tryz.prog W r b0 5 v) (hd : DataW.Trod enc Tryz.prog W base sp held 5 v d ps) :
    ∃ n : Nat, v = .int .u8 n ∧ d = .lit (.int .u8 n) ∧ ps = [] ∧ n < 256 := by
  obtain ⟨x, rfl, rfl, rfl, wx⟩ := open_int Tryz.underlying5 hval hd
  obtain ⟨n, rfl, hn⟩ := byte_of_wf wx
  exact ⟨n, rfl, rfl, rfl, hn⟩
set_option maxRecDepth 100000 in
theorem shut_byte {n : Nat} (h : n < 256) : DataW.Trod enc Tryz.prog W base sp held 5 (.int .u8 n) (.lit (.int .u8 n)) [] := by
  refine shut_int Tryz.underlying5 ?_
  simp [Lit.wf, IntKind.min, IntKind.max, IntKind.signed, IntKind.bits]
  omega

set_option maxRecDepth 100000 in
set_option maxHeartbeats 1000000 in
theorem open_addr1 {fuel : Nat} {cs : List Value} {y : DataW H × List MemPlace} (h : DataW.trod enc Tryz.prog W base sp held fuel 23 cs = some y) : ∃ a : Ad, cs = [.int .i64 a.k, .int .i64 a.n, .int .i64 a.m] := by
  obtain ⟨xs, k, _, _, hl, hxl, hf⟩ := DataW.trod_struct Tryz.underlying23 h
  rw [cellsA3] at hl
  obtain ⟨a, b, c, rfl⟩ : ∃ a b c, cs = [a, b, c] := by
    match cs, hl with
    | [a, b, c], _ => exact ⟨a, b, c, rfl⟩
  have g0 := hf 0 _ rfl
  have g1 := hf 1 _ rfl
  have g2 := hf 2 _ rfl
  have hsz : xs.length = 3 := hxl
  match xs, hsz with
  | [y0, y1, y2], _ =>
    simp [cellsI1] at g0 g1 g2
    obtain ⟨s, e0, _, _⟩ := DataW.trod_int Tryz.underlying3 g0
    obtain ⟨t, e1, _, _⟩ := DataW.trod_int Tryz.underlying3 g1
    obtain ⟨u, e2, _, _⟩ := DataW.trod_int Tryz.underlying3 g2
    simp at e0 e1 e2
    subst e0 e1 e2
    exact ⟨⟨s, t, u⟩, rfl⟩
set_option maxRecDepth 100000 in
set_option maxHeartbeats 1000000 in
theorem open_range1 {fuel : Nat} {cs : List Value} {y : DataW H × List MemPlace} (h : DataW.trod enc Tryz.prog W base sp held fuel 25 cs = some y) :
    ∃ r : Rg, cs = [.int .i64 r.a.k, .int .i64 r.a.n, .int .i64 r.a.m, .int .i64 r.b.k, .int .i64 r.b.n, .int .i64 r.b.m, .bool r.not] := by
  obtain ⟨xs, k, _, _, hl, hxl, hf⟩ := DataW.trod_struct Tryz.underlying25 h
  rw [cellsR7] at hl
  obtain ⟨a0, a1, a2, a3, a4, a5, a6, rfl⟩ : ∃ a0 a1 a2 a3 a4 a5 a6, cs = [a0, a1, a2, a3, a4, a5, a6] := by
    match cs, hl with
    | [a0, a1, a2, a3, a4, a5, a6], _ => exact ⟨a0, a1, a2, a3, a4, a5, a6, rfl⟩
  have g0 := hf 0 _ rfl
  have g1 := hf 1 _ rfl
  have g2 := hf 2 _ rfl
  have hsz : xs.length = 3 := hxl
  match xs, hsz with
  | [y0, y1, y2], _ =>
    simp [cellsA3, cellsB1] at g0 g1 g2
    obtain ⟨A, e0⟩ := open_addr1 g0
    obtain ⟨B, e1⟩ := open_addr1 g1
    obtain ⟨t, e2, _⟩ := DataW.trod_bool Tryz.underlying4 g2
    simp at e0 e1 e2
    obtain ⟨rfl, rfl, rfl⟩ := e0
    obtain ⟨rfl, rfl, rfl⟩ := e1
    subst e2
    exact ⟨⟨A, B, t⟩, rfl⟩
theorem open_bools1 {fuel : Nat} {cs : List Value} {y : DataW H × List MemPlace} (h : DataW.trod enc Tryz.prog W base sp held fuel 46 cs = some y) : ∃ p n cap bs, cs = [.slice p n cap] ∧ Bls W p n cap bs := by
  rcases Deep.open_slice1 Tryz.underlying46 cellsB1 h with ⟨hcs, _⟩ | ⟨a, len, cap, m, n, V, D, Pl, hcs, _, hl, hm, hmm, hx, hel⟩
  · exact ⟨none, 0, 0, [], by simpa using hcs, Bls.none_ W⟩
  · have hlm : len ≤ m := by rw [hmm]; split <;> omega
    have each : ∀ i, i < len → ∃ x : Bool, W.cell? (a.add i) = some (.bool x) := fun i hi => by
      obtain ⟨h1, h2⟩ := hel i (by omega)
      obtain ⟨x, e, _⟩ := DataW.trod_bool Tryz.underlying4 h2
      simp at e
      exact ⟨x, by rw [h1, e]⟩
    obtain ⟨X, hX⟩ := Deep.choose_lt each
    refine ⟨some a, len, cap, (List.range len).map X, by simpa using hcs, ⟨by simp, hl, hm, ?_, ?_, ?_⟩⟩
    · intro h1
      obtain ⟨b, off, spot⟩ := a
      have h0 := hX 0 (by omega)
      have hspot : spot = none := by simpa [Addr.add] using World.cell?_spot h0
      exact ⟨b, off, by rw [hspot]⟩
    · intro h1 b o e
      obtain rfl : a = ⟨b, o, none⟩ := Option.some.inj e
      have h0 := hX 0 (by omega)
      rw [Addr.add_lit] at h0
      exact lt_cell h0
    · intro b o e i x hxi
      obtain rfl : a = ⟨b, o, none⟩ := Option.some.inj e
      have hi : i < len := by
        have := (List.getElem?_eq_some_iff.1 hxi).1
        simpa using this
      have hx' : X i = x := by simpa [hi] using hxi
      have := hX i hi
      rw [Addr.add_lit, hx'] at this
      exact this
set_option maxRecDepth 100000 in
set_option maxHeartbeats 1000000 in
theorem open_line1 {fuel : Nat} {cs : List Value} {y : DataW H × List MemPlace} (h : DataW.trod enc Tryz.prog W base sp held fuel 48 cs = some y) :
    ∃ x : Li, cs = [.int .i64 x.N, .bool x.L, .slice x.p x.n x.c] ∧ Bls W x.p x.n x.c x.H := by
  obtain ⟨xs, k, _, _, hl, hxl, hf⟩ := DataW.trod_struct Tryz.underlying48 h
  rw [cellsL3] at hl
  obtain ⟨a, b, c, rfl⟩ : ∃ a b c, cs = [a, b, c] := by
    match cs, hl with
    | [a, b, c], _ => exact ⟨a, b, c, rfl⟩
  have g0 := hf 0 _ rfl
  have g1 := hf 1 _ rfl
  have g2 := hf 2 _ rfl
  have hsz : xs.length = 3 := hxl
  match xs, hsz with
  | [y0, y1, y2], _ =>
    simp [cellsI1, cellsB1, cellsBs] at g0 g1 g2
    obtain ⟨s, e0, _, _⟩ := DataW.trod_int Tryz.underlying3 g0
    obtain ⟨t, e1, _⟩ := DataW.trod_bool Tryz.underlying4 g1
    obtain ⟨p, n, cap, bs, e2, hb⟩ := open_bools1 g2
    simp at e0 e1 e2
    subst e0 e1 e2
    exact ⟨⟨s, t, p, n, cap, bs⟩, rfl, hb⟩
instance : Inhabited Li := ⟨⟨0, false, none, 0, 0, []⟩⟩
set_option maxRecDepth 100000 in
set_option maxHeartbeats 1000000 in
theorem open_lines1 {fuel : Nat} {cs : List Value} {y : DataW H × List MemPlace} (h : DataW.trod enc Tryz.prog W base sp held fuel 42 cs = some y) : ∃ p n cap ls, cs = [.slice p n cap] ∧ Lns W p n cap ls := by
  rcases Deep.open_slice Tryz.underlying42 h with ⟨hcs, _⟩ | ⟨a, len, cap, m, n, D, Pl, hcs, _, hl, hm, hmm, hx, hel⟩
  · exact ⟨none, 0, 0, [], by simpa using hcs, Lns.none_ W⟩
  · have hlm : len ≤ m := by rw [hmm]; split <;> omega
    have each : ∀ i, i < len → ∃ x : Li, (W.cell? (a.add (i * 3)) = some (.int .i64 x.N) ∧ W.cell? (a.add (i * 3 + 1)) = some (.bool x.L) ∧ W.cell? (a.add (i * 3 + 2)) = some (.slice x.p x.n x.c)) ∧ Bls W x.p x.n x.c x.H := fun i hi => by
      obtain ⟨cs', h1, h2⟩ := hel i (by omega)
      rw [cellsL3] at h1
      obtain ⟨x, rfl, hb⟩ := open_line1 h2
      obtain ⟨_, _, hcell⟩ := World.cells?_some h1
      have e0 := hcell 0 (by omega)
      have e1 := hcell 1 (by omega)
      have e2 := hcell 2 (by omega)
      rw [Deep.add_add] at e0 e1 e2
      exact ⟨x, ⟨by simpa using e0, by simpa using e1, by simpa using e2⟩, hb⟩
    obtain ⟨X, hX⟩ := Deep.choose_lt each
    refine ⟨some a, len, cap, (List.range len).map X, by simpa using hcs, ⟨by simp, hl, hm, ?_, ?_, ?_, ?_⟩⟩
    · intro h1
      obtain ⟨b, off, spot⟩ := a
      have h0 := (hX 0 (by omega)).1.1
      have hspot : spot = none := by simpa [Addr.add] using World.cell?_spot h0
      exact ⟨b, off, by rw [hspot]⟩
    · intro h1 b o e
      obtain rfl : a = ⟨b, o, none⟩ := Option.some.inj e
      have h0 := (hX 0 (by omega)).1.1
      rw [Addr.add_lit] at h0
      exact lt_cell h0
    · intro b o e i x hxi
      obtain rfl : a = ⟨b, o, none⟩ := Option.some.inj e
      have hi : i < len := by
        have := (List.getElem?_eq_some_iff.1 hxi).1
        simpa using this
      have hx' : X i = x := by simpa [hi] using hxi
      have := (hX i hi).1
      rw [Addr.add_lit, Addr.add_lit, Addr.add_lit, hx'] at this
      rw [Nat.add_assoc, Nat.add_assoc]
      exact this
    · intro i x hxi
      have hi : i < len := by
        have := (List.getElem?_eq_some_iff.1 hxi).1
        simpa using this
      have hx' : X i = x := by simpa [hi] using hxi
      rw [← hx']
      exact (hX i hi).2

theorem val_list {v : Value} {cs : List Value} (h : v.cells.toList = cs) (hv : ∃ x, v = .agg x) : v = .agg cs.toArray := by
  obtain ⟨x, rfl⟩ := hv
  subst h
  simp [Value.cells]
set_option maxRecDepth 100000 in
theorem open_addr {v : Value} {d : DataW H} {ps : List MemPlace} (hval : Value.okWide Tryz.prog W r b0 23 v) (hd : DataW.Trod enc Tryz.prog W base sp held 23 v d ps) : ∃ a : Ad, v = adv a := by
  obtain ⟨cs, rfl, hsz, _⟩ : ∃ cs, v = .agg cs ∧ cs.size = Tryz.prog.cellsOf 23 ∧ Row.okWide Tryz.prog W r b0 23 cs := by
    simpa [Value.okWide, Tryz.underlying23] using hval
  obtain ⟨fuel, hf⟩ := hd
  obtain ⟨a, ha⟩ := open_addr1 hf
  exact ⟨a, val_list ha ⟨_, rfl⟩⟩
set_option maxRecDepth 100000 in
theorem open_range {v : Value} {d : DataW H} {ps : List MemPlace} (hval : Value.okWide Tryz.prog W r b0 25 v) (hd : DataW.Trod enc Tryz.prog W base sp held 25 v d ps) : ∃ a : Rg, v = rgv a := by
  obtain ⟨cs, rfl, hsz, _⟩ : ∃ cs, v = .agg cs ∧ cs.size = Tryz.prog.cellsOf 25 ∧ Row.okWide Tryz.prog W r b0 25 cs := by
    simpa [Value.okWide, Tryz.underlying25] using hval
  obtain ⟨fuel, hf⟩ := hd
  obtain ⟨a, ha⟩ := open_range1 hf
  exact ⟨a, val_list ha ⟨_, rfl⟩⟩
set_option maxRecDepth 100000 in
theorem open_line {v : Value} {d : DataW H} {ps : List MemPlace} (hval : Value.okWide Tryz.prog W r b0 48 v) (hd : DataW.Trod enc Tryz.prog W base sp held 48 v d ps) : ∃ x : Li, v = lnv x.N x.L (.slice x.p x.n x.c) ∧ Bls W x.p x.n x.c x.H := by
  obtain ⟨cs, rfl, hsz, _⟩ : ∃ cs, v = .agg cs ∧ cs.size = Tryz.prog.cellsOf 48 ∧ Row.okWide Tryz.prog W r b0 48 cs := by
    simpa [Value.okWide, Tryz.underlying48] using hval
  obtain ⟨fuel, hf⟩ := hd
  obtain ⟨a, ha, hb⟩ := open_line1 hf
  exact ⟨a, val_list ha ⟨_, rfl⟩, hb⟩
set_option maxRecDepth 100000 in
theorem open_bools {v : Value} {d : DataW H} {ps : List MemPlace} (hval : Value.okWide Tryz.prog W r b0 46 v) (hd : DataW.Trod enc Tryz.prog W base sp held 46 v d ps) : ∃ p n cap bs, v = .slice p n cap ∧ Bls W p n cap bs := by
  obtain ⟨p, n, cap, rfl⟩ := okWide_slice Tryz.underlying46 hval
  obtain ⟨fuel, hf⟩ := hd
  obtain ⟨p', n', cap', bs, e, hb⟩ := open_bools1 hf
  simp [Value.cells] at e
  obtain ⟨rfl, rfl, rfl⟩ := e
  exact ⟨_, _, _, bs, rfl, hb⟩
set_option maxRecDepth 100000 in
theorem open_lines {v : Value} {d : DataW H} {ps : List MemPlace} (hval : Value.okWide Tryz.prog W r b0 42 v) (hd : DataW.Trod enc Tryz.prog W base sp held 42 v d ps) : ∃ p n cap ls, v = .slice p n cap ∧ Lns W p n cap ls := by
  obtain ⟨p, n, cap, rfl⟩ := okWide_slice Tryz.underlying42 hval
  obtain ⟨fuel, hf⟩ := hd
  obtain ⟨p', n', cap', ls, e, hb⟩ := open_lines1 hf
  simp [Value.cells] at e
  obtain ⟨rfl, rfl, rfl⟩ := e
  exact ⟨_, _, _, ls, rfl, hb⟩
end

end Go.Proofs.YtaamhjjdhebjfaaGreatDoor
