/- Parse's scan. -/
import Derived.Test.YtjnedhjpgefbpaaGreatDoorZRxTe
import Derived.Test.YtjnedhjpgefbpaaGreatDoorZRxY
import Derived.Lib.SmallJoins
namespace Go.Proofs.YtjnedhjpgefbpaaGreatDoor
open Go.RowKit Go.Lib
set_option linter.unusedVariables false
set_option linter.unusedSimpArgs false

end Go.Proofs.YtjnedhjpgefbpaaGreatDoor

namespace Go.Proofs.YtjnedhjpgefbpaaGreatDoor
open Go.RowKit Go.Lib
set_option linter.unusedVariables false
set_option linter.unusedSimpArgs false

/-- The variable that Cut's search reads holds some int. -/
def MaxLen (w : World) : Prop := ∃ m, w.cell? ⟨2, 0, none⟩ = some (.int .i64 m)

/-- Of the blocks from B on, b alone has changed. -/
structure Only (B b : Nat) (w w' : World) : Prop where
  below : Below B w w'
  heap : ∀ k, k ≠ b → k < w.heap.size → w'.heap[k]? = w.heap[k]?
theorem Only.of {B b : Nat} {w w' : World} (h : Below w.heap.size w w') (hb : B ≤ w.heap.size) : Only B b w w' := ⟨h.mono hb, fun k _ hk => h.block k hk⟩
theorem Only.trans {B b : Nat} {w w' w2 : World} (h : Only B b w w') (h' : Only B b w' w2) : Only B b w w2 :=
  ⟨h.below.trans h'.below, fun k hk hl => (h'.heap k hk (Nat.lt_of_lt_of_le hl h.below.size)).trans (h.heap k hk hl)⟩
theorem Only.set {B b : Nat} {w w' : World} (h : Only B b w w') (hb : B ≤ b) (v : Value) : Only B b w (w'.setCell ⟨b, 0, none⟩ v) :=
  ⟨h.below.setCell hb _, fun k hk hl => (Below.heap_setCell _ ⟨b, 0, none⟩ _ k hk).trans (h.heap k hk hl)⟩

end Go.Proofs.YtjnedhjpgefbpaaGreatDoor

namespace Go.Proofs.YtjnedhjpgefbpaaGreatDoor
open Go.RowKit Go.Lib
set_option linter.unusedVariables false
set_option linter.unusedSimpArgs false

/-- What the scan reads of the library's variables. -/
structure Vars (w : World) : Prop where
  max : MaxLen w
  syn : ∃ tp p, w.var? Tryz.prog "strconv.ErrSyntax" = some #[.iface tp p]
  rng : ∃ tp p, w.var? Tryz.prog "strconv.ErrRange" = some #[.iface tp p]

theorem World.lt_of_cell {w : World} {a : Addr} {v : Value} (h : w.cell? a = some v) : a.block < w.heap.size := by
  rcases Nat.lt_or_ge a.block w.heap.size with q | q
  · exact q
  · unfold World.cell? at h
    rw [Array.getElem?_eq_none q] at h
    simp at h
theorem synNamed : ∃ g, Tryz.prog.globalNamed "strconv.ErrSyntax" = some g := Option.isSome_iff_exists.1 (by kernel_rfl)
theorem rngNamed : ∃ g, Tryz.prog.globalNamed "strconv.ErrRange" = some g := Option.isSome_iff_exists.1 (by kernel_rfl)
theorem MaxLen.below {w w' : World} (h : MaxLen w) (hB : Below w.heap.size w w') : MaxLen w' := by
  obtain ⟨m, h⟩ := h
  exact ⟨m, (hB.cell (World.lt_of_cell h)).trans h⟩
theorem Vars.below {w w' : World} (h : Vars w) (hB : Below w.heap.size w w') : Vars w' := by
  obtain ⟨h1, ⟨t, p, h2⟩, ⟨t', p', h3⟩⟩ := h
  obtain ⟨g, hg⟩ := synNamed
  obtain ⟨g', hg'⟩ := rngNamed
  exact ⟨h1.below hB, ⟨t, p, Joins.var_stays hg h2 hB (Nat.le_refl _)⟩, ⟨t', p', Joins.var_stays hg' h3 hB (Nat.le_refl _)⟩⟩

/-- The first number that Atoi answers. -/
def atoiNum (l : List UInt8) : Int := match Lib.atoiAll l with
  | .ok v => v
  | .range => Lib.atoiSat l
  | _ => 0

theorem atoi_c (s : ByteArray) (hs : s.size ≤ 281474976710656) (w : World) (h : Vars w) :
    Calls Tryz.prog 81 #[.string s] w fun e w' => (∃ v, e = .returned (.tuple #[.int .i64 (atoiNum s.data.toList), v])) ∧ Below w.heap.size w w' := by
  unfold atoiNum
  cases hq : Lib.atoiAll s.data.toList with
  | ok v =>
    refine (Tryz.strconv_Atoi_ok s (by omega) v hq w).mono ?_
    rintro e w' ⟨rfl, rfl | ⟨t, rfl⟩⟩
    · exact ⟨⟨_, rfl⟩, Below.refl _ _⟩
    · exact ⟨⟨_, rfl⟩, Joins.below_bytesWorld _ _ _ _ (Nat.le_refl _)⟩
  | range =>
    obtain ⟨tp, p, hv⟩ := h.rng
    refine (Tryz.strconv_Atoi_range_var s hs hq tp p w hv).mono ?_
    rintro e w' ⟨N, rfl, _, _, hB⟩
    exact ⟨⟨_, rfl⟩, hB⟩
  | _ =>
    obtain ⟨tp, p, hv⟩ := h.syn
    refine (Any.strconv_Atoi_syntax_var Tryz.laysC172 s hs hq tp p w hv).mono ?_
    rintro e w' ⟨N, rfl, _, _, hB⟩
    exact ⟨⟨_, rfl⟩, hB⟩

end Go.Proofs.YtjnedhjpgefbpaaGreatDoor
