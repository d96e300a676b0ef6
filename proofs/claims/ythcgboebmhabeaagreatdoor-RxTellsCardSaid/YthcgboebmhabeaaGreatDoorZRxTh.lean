/- Parse's scan. -/
import Derived.Test.YthcgboebmhabeaaGreatDoorZRxTe
import Derived.Test.YthcgboebmhabeaaGreatDoorZRxY
import Derived.Lib.SmallJoins
namespace Go.Proofs.YthcgboebmhabeaaGreatDoor
open Go.RowKit Go.Lib
set_option linter.unusedVariables false
set_option linter.unusedSimpArgs false

/-- The scan lies in block b, and has s left. -/
def Scan (w : World) (b : Nat) (s : ByteArray) : Prop := w.heap[b]? = some (.cells #[.string s] 90 (0, 0))
theorem Scan.lt {w : World} {b : Nat} {s : ByteArray} (h : Scan w b s) : b < w.heap.size := (Array.getElem?_eq_some_iff.1 h).1
theorem Scan.cell {w : World} {b : Nat} {s : ByteArray} (h : Scan w b s) : w.cell? ⟨b, 0, none⟩ = some (.string s) := by
  rw [cell_of _ _ _ _ h]; rfl
theorem Scan.fz {w : World} {b : Nat} {s : ByteArray} (h : Scan w b s) : w.frozen? ⟨b, 0, none⟩ = false := frozen_of _ _ _ _ h 0
theorem Scan.set {w : World} {b : Nat} {s : ByteArray} (h : Scan w b s) (t : ByteArray) : Scan (w.setCell ⟨b, 0, none⟩ (.string t)) b t := by
  have a := heap_setCell_same _ b 0 _ _ (.string t) h
  exact a

set_option maxRecDepth 100000 in
set_option maxHeartbeats 4000000 in
theorem next_nil (b : Nat) (w : World) (h : Scan w b ⟨#[]⟩) :
    Calls Tryz.prog 60 #[.pointer (some ⟨b, 0, none⟩)] w fun e w' => e = .returned (.int .u8 0) ∧ w' = w := by
  have h0 := h.cell
  have hf := h.fz
  go_enter Tryz.func60, Tryz.ntmps60
  go_wp2
  go_ret
  exact ⟨rfl, rfl⟩

set_option maxRecDepth 100000 in
set_option maxHeartbeats 4000000 in
theorem next_cons (b : Nat) (c : UInt8) (l : List UInt8) (w : World) (h : Scan w b ⟨(c :: l).toArray⟩) :
    Calls Tryz.prog 60 #[.pointer (some ⟨b, 0, none⟩)] w fun e w' => e = .returned (.int .u8 (c.toNat : Int)) ∧ w' = w.setCell ⟨b, 0, none⟩ (.string ⟨l.toArray⟩) := by
  have h0 := h.cell
  have hf := h.fz
  go_enter Tryz.func60, Tryz.ntmps60
  go_wp2
  have e : (⟨(c :: l).toArray⟩ : ByteArray).extract 1 (l.length + 1) = ⟨l.toArray⟩ := by
    apply ByteArray.ext
    apply Array.ext'
    simp [ByteArray.data_extract]
  rw [e]
  go_ret
  exact ⟨rfl, rfl⟩

end Go.Proofs.YthcgboebmhabeaaGreatDoor

namespace Go.Proofs.YthcgboebmhabeaaGreatDoor
open Go.RowKit Go.Lib
set_option linter.unusedVariables false
set_option linter.unusedSimpArgs false

/-- The variable that Cut's search reads holds some int. -/
def MaxLen (w : World) : Prop := ∃ m, w.cell? ⟨4, 0, none⟩ = some (.int .i64 m)

/-- Of the blocks from B on, b alone has changed. -/
structure Only (B b : Nat) (w w' : World) : Prop where
  below : Below B w w'
  heap : ∀ k, k ≠ b → k < w.heap.size → w'.heap[k]? = w.heap[k]?
theorem Only.of {B b : Nat} {w w' : World} (h : Below w.heap.size w w') (hb : B ≤ w.heap.size) : Only B b w w' := ⟨h.mono hb, fun k _ hk => h.block k hk⟩
theorem Only.trans {B b : Nat} {w w' w2 : World} (h : Only B b w w') (h' : Only B b w' w2) : Only B b w w2 :=
  ⟨h.below.trans h'.below, fun k hk hl => (h'.heap k hk (Nat.lt_of_lt_of_le hl h.below.size)).trans (h.heap k hk hl)⟩
theorem Only.set {B b : Nat} {w w' : World} (h : Only B b w w') (hb : B ≤ b) (v : Value) : Only B b w (w'.setCell ⟨b, 0, none⟩ v) :=
  ⟨h.below.setCell hb _, fun k hk hl => (Below.heap_setCell _ ⟨b, 0, none⟩ _ k hk).trans (h.heap k hk hl)⟩

set_option maxRecDepth 100000 in
set_option maxHeartbeats 4000000 in
theorem upto_c (B b : Nat) (hb : B ≤ b) (s e : ByteArray) (hs : s.size < 4294967281) (w : World) (hm : MaxLen w) (h : Scan w b s) :
    Calls Tryz.prog 63 #[.pointer (some ⟨b, 0, none⟩), .string e] w fun r w' => r = .returned (.string ⟨(Lib.cut s.data.toList e.data.toList).1.toArray⟩) ∧ Scan w' b ⟨(Lib.cut s.data.toList e.data.toList).2.1.toArray⟩ ∧ Only B b w w' := by
  have h0 := h.cell
  have hf := h.fz
  obtain ⟨m, hm⟩ := hm
  have HC := Lib.hid (Tryz.strings_Cut s e m w hs hm)
  go_enter Tryz.func63, Tryz.ntmps63
  go_wp2_with fail
  refine HC.out.mono ?_
  rintro r w1 ⟨rfl, n, rfl⟩
  have h1 : Scan (w.drewN n) b s := h
  have c0 := h1.cell
  have cf := h1.fz
  have hB : Only B b w (w.drewN n) := ⟨⟨rfl, rfl, rfl, Nat.le_refl _, fun k hk => rfl⟩, fun k _ _ => rfl⟩
  clear HC hm
  go_wp2
  go_ret
  exact ⟨rfl, h1.set _, hB.set hb _⟩

end Go.Proofs.YthcgboebmhabeaaGreatDoor

namespace Go.Proofs.YthcgboebmhabeaaGreatDoor
open Go.RowKit Go.Lib
set_option linter.unusedVariables false
set_option linter.unusedSimpArgs false

/-- What the scan reads of the library's variables. -/
structure Vars (w : World) : Prop where
  max : MaxLen w
  syn : ∃ tp p, w.var? Tryz.prog "strconv.ErrSyntax" = some #[.iface tp p]
  rng : ∃ tp p, w.var? Tryz.prog "strconv.ErrRange" = some #[.iface tp p]

theorem World.lt_of_cell {w : World} {a : Addr} {v : Value} (h : w.cell? a = some v) : a.block < w.heap.size := by
  rcases Nat.lt_or_ge a.block w.heap.size with q | q
  · exact q
  · unfold World.cell? at h
    rw [Array.getElem?_eq_none q] at h
    simp at h
theorem synNamed : ∃ g, Tryz.prog.globalNamed "strconv.ErrSyntax" = some g := Option.isSome_iff_exists.1 (by kernel_rfl)
theorem rngNamed : ∃ g, Tryz.prog.globalNamed "strconv.ErrRange" = some g := Option.isSome_iff_exists.1 (by kernel_rfl)
theorem MaxLen.below {w w' : World} (h : MaxLen w) (hB : Below w.heap.size w w') : MaxLen w' := by
  obtain ⟨m, h⟩ := h
  exact ⟨m, (hB.cell (World.lt_of_cell h)).trans h⟩
theorem Vars.below {w w' : World} (h : Vars w) (hB : Below w.heap.size w w') : Vars w' := by
  obtain ⟨h1, ⟨t, p, h2⟩, ⟨t', p', h3⟩⟩ := h
  obtain ⟨g, hg⟩ := synNamed
  obtain ⟨g', hg'⟩ := rngNamed
  exact ⟨h1.below hB, ⟨t, p, Joins.var_stays hg h2 hB (Nat.le_refl _)⟩, ⟨t', p', Joins.var_stays hg' h3 hB (Nat.le_refl _)⟩⟩

/-- The first number that Atoi answers. -/
def atoiNum (l : List UInt8) : Int := match Lib.atoiAll l with
  | .ok v => v
  | .range => Lib.atoiSat l
  | _ => 0

theorem atoi_c (s : ByteArray) (hs : s.size ≤ 281474976710656) (w : World) (h : Vars w) :
    Calls Tryz.prog 70 #[.string s] w fun e w' => (∃ v, e = .returned (.tuple #[.int .i64 (atoiNum s.data.toList), v])) ∧ Below w.heap.size w w' := by
  unfold atoiNum
  cases hq : Lib.atoiAll s.data.toList with
  | ok v =>
    refine (Tryz.strconv_Atoi_ok s (by omega) v hq w).mono ?_
    rintro e w' ⟨rfl, rfl | ⟨t, rfl⟩⟩
    · exact ⟨⟨_, rfl⟩, Below.refl _ _⟩
    · exact ⟨⟨_, rfl⟩, Joins.below_bytesWorld _ _ _ _ (Nat.le_refl _)⟩
  | range =>
    obtain ⟨tp, p, hv⟩ := h.rng
    refine (Tryz.strconv_Atoi_range_var s hs hq tp p w hv).mono ?_
    rintro e w' ⟨N, rfl, _, _, hB⟩
    exact ⟨⟨_, rfl⟩, hB⟩
  | _ =>
    obtain ⟨tp, p, hv⟩ := h.syn
    refine (Any.strconv_Atoi_syntax_var Tryz.laysC172 s hs hq tp p w hv).mono ?_
    rintro e w' ⟨N, rfl, _, _, hB⟩
    exact ⟨⟨_, rfl⟩, hB⟩

theorem Scan.below {B : Nat} {w w' : World} {b : Nat} {s : ByteArray} (h : Scan w b s) (hB : Below B w w') (hb : b < B) : Scan w' b s := (hB.block b hb).trans h

set_option maxRecDepth 100000 in
set_option maxHeartbeats 4000000 in
theorem number_c (B b : Nat) (hb : B ≤ b) (s e : ByteArray) (hs : s.size < 4294967281) (w0 w : World) (hv : Vars w0) (hB0 : Below w0.heap.size w0 w) (hB : w0.heap.size ≤ B) (h : Scan w b s) :
    Calls Tryz.prog 58 #[.pointer (some ⟨b, 0, none⟩), .string e] w fun r w' => r = .returned (.int .i64 (atoiNum (Lib.cut s.data.toList e.data.toList).1)) ∧ Scan w' b ⟨(Lib.cut s.data.toList e.data.toList).2.1.toArray⟩ ∧ Only B b w w' := by
  have HU := Lib.hid (upto_c B b hb s e hs w (hv.below hB0).max h)
  have hcl : (Lib.cut s.data.toList e.data.toList).1.length ≤ s.size := by
    have e1 : s.data.toList.length = s.size := by simp
    unfold Lib.cut
    split
    · rw [List.length_take]; omega
    · show s.data.toList.length ≤ _; omega
  have HA := Lib.hid fun w (h : Vars w) => atoi_c ⟨(Lib.cut s.data.toList e.data.toList).1.toArray⟩ (by show Array.size _ ≤ _; simp; omega) w h
  have hbl := h.lt
  clear hcl
  go_enter Tryz.func58, Tryz.ntmps58
  go_wp2_with fail
  refine HU.out.mono ?_
  rintro r w1 ⟨rfl, h1, hB1⟩
  have hB01 : Below w0.heap.size w0 w1 := hB0.trans (hB1.below.mono hB)
  have hb1 := h1.lt
  go_wp2_with fail
  refine (HA.out w1 (hv.below hB01)).mono ?_
  rintro r w2 ⟨⟨v, rfl⟩, hB2⟩
  have h2 := h1.below hB2 hb1
  have hB3 := hB1.trans (Only.of hB2 (by omega))
  clear HU HA
  go_wp2
  go_ret
  exact ⟨rfl, h2, hB3⟩

end Go.Proofs.YthcgboebmhabeaaGreatDoor
