/- head. -/
import Derived.Test.YthbldjiibgnfmaaGreatDoorZRxU
import Derived.Test.YthbldjiibgnfmaaGreatDoorZSetJ
import Derived.Test.YthbldjiibgnfmaaGreatDoorZShelf
import Derived.Lib.AppendIntMem
import Derived.Lib.ItoaLen
import Derived.Deep.AppendLies
import Derived.Test.YthbldjiibgnfmaaGreatDoorZRxTd
import Derived.Lib.SmallJoins
import Derived.Test.YthbldjiibgnfmaaGreatDoorZRxK
import Derived.Test.YthbldjiibgnfmaaGreatDoorZSetE
import Derived.Lib.AtoiAllCases
import Derived.Lib.IndexMore
import Derived.Lib.IndexBytes
import Derived.Lib.FrozenHead2
import Derived.Lib.OthersKept
import Derived.BigQuiet
import Derived.Deep.RegionHeld3
import Derived.Laws.EntriesVeiled
namespace Go.Proofs.YthbldjiibgnfmaaGreatDoor
open Go.RowKit Go.Lib
set_option linter.unusedVariables false
set_option linter.unusedSimpArgs false

/-- The world holds the two tables. -/
structure Fit3 (w : World) : Prop where
  fit : Fit w
  pow : Lib.TabIs Tryz.prog w "internal/strconv.uint64pow10" .u64 Lib.pow10Tab
theorem Fit3.below {w w' : World} (h : Fit3 w) (hB : Below w.heap.size w w') : Fit3 w' := ⟨h.fit.below hB, Lib.tabBelow_of_tabIs h.pow w' hB⟩

theorem itoa_c (n : Int) (h0 : -9223372036854775808 ≤ n) (h1 : n ≤ 9223372036854775807) (w : World) (h : Fit3 w) :
    Calls Tryz.prog 58 #[.int .i64 n] w fun e w' => e = .returned (.string ⟨(itoa n).toArray⟩) ∧ Below w.heap.size w w' := by
  refine (Tryz.strconv_Itoa n h0 h1 w h.pow).mono ?_
  rintro e w' ⟨rfl, k, os, rfl⟩
  exact ⟨rfl, Lib.below_grow _ _ (Nat.le_refl _) k os⟩

end Go.Proofs.YthbldjiibgnfmaaGreatDoor

namespace Go.Proofs.YthbldjiibgnfmaaGreatDoor
open Go.RowKit Go.Lib
set_option linter.unusedVariables false
set_option linter.unusedSimpArgs false

/-- The variable that Cut's search reads holds some int. -/
def MaxLen (w : World) : Prop := ∃ m, w.cell? ⟨1, 0, none⟩ = some (.int .i64 m)

end Go.Proofs.YthbldjiibgnfmaaGreatDoor

namespace Go.Proofs.YthbldjiibgnfmaaGreatDoor
open Go.RowKit Go.Lib
set_option linter.unusedVariables false
set_option linter.unusedSimpArgs false

/-- What the scan reads of the library's variables. -/
structure Vars (w : World) : Prop where
  max : MaxLen w
  syn : ∃ tp p, w.var? Tryz.prog "strconv.ErrSyntax" = some #[.iface tp p]
  rng : ∃ tp p, w.var? Tryz.prog "strconv.ErrRange" = some #[.iface tp p]

theorem World.lt_of_cell {w : World} {a : Addr} {v : Value} (h : w.cell? a = some v) : a.block < w.heap.size := by
  rcases Nat.lt_or_ge a.block w.heap.size with q | q
  · exact q
  · unfold World.cell? at h
    rw [Array.getElem?_eq_none q] at h
    simp at h
theorem synNamed : ∃ g, Tryz.prog.globalNamed "strconv.ErrSyntax" = some g := Option.isSome_iff_exists.1 (by kernel_rfl)
theorem rngNamed : ∃ g, Tryz.prog.globalNamed "strconv.ErrRange" = some g := Option.isSome_iff_exists.1 (by kernel_rfl)
theorem MaxLen.below {w w' : World} (h : MaxLen w) (hB : Below w.heap.size w w') : MaxLen w' := by
  obtain ⟨m, h⟩ := h
  exact ⟨m, (hB.cell (World.lt_of_cell h)).trans h⟩
theorem Vars.below {w w' : World} (h : Vars w) (hB : Below w.heap.size w w') : Vars w' := by
  obtain ⟨h1, ⟨t, p, h2⟩, ⟨t', p', h3⟩⟩ := h
  obtain ⟨g, hg⟩ := synNamed
  obtain ⟨g', hg'⟩ := rngNamed
  exact ⟨h1.below hB, ⟨t, p, Joins.var_stays hg h2 hB (Nat.le_refl _)⟩, ⟨t', p', Joins.var_stays hg' h3 hB (Nat.le_refl _)⟩⟩

end Go.Proofs.YthbldjiibgnfmaaGreatDoor

namespace Go.Proofs.YthbldjiibgnfmaaGreatDoor
open Go.RowKit Go.Lib
set_option linter.unusedVariables false
set_option linter.unusedSimpArgs false

/-- A number below 1000, written out. -/
def dig3 (n : Nat) : List UInt8 := if n < 10 then [UInt8.ofNat (48 + n)] else if n < 100 then [UInt8.ofNat (48 + n / 10), UInt8.ofNat (48 + n % 10)] else [UInt8.ofNat (48 + n / 100), UInt8.ofNat (48 + n / 10 % 10), UInt8.ofNat (48 + n % 10)]
theorem dec3 (n : Nat) (h : n < 1000) : decDigits n = dig3 n := by
  unfold dig3
  by_cases h1 : n < 10
  · rw [if_pos h1, decDigits_one h1]
  · rw [if_neg h1]
    by_cases h2 : n < 100
    · rw [if_pos h2, decDigits_two h1 h2]
    · rw [if_neg h2, decDigits, dif_neg h1, decDigits_two (by omega) (by omega), Nat.div_div_eq_div_mul]
      simp
end Go.Proofs.YthbldjiibgnfmaaGreatDoor

namespace Go.Proofs.YthbldjiibgnfmaaGreatDoor
open Go.RowKit Go.Lib
set_option linter.unusedVariables false
set_option linter.unusedSimpArgs false

/-- The nodes of a tree whose first node is number o. -/
def T.nodes : T → Nat → List Nd
  | .leaf x, _ => [x]
  | .two k a b, o => a.nodes o ++ (b.nodes (o + a.size) ++ [T.root (.two k a b) o])
  | .times m M t, o => t.nodes o ++ [T.root (.times m M t) o]
  | .group n t, o => t.nodes o ++ [T.root (.group n t) o]
theorem T.nodes_len : ∀ (t : T) (o : Nat), (t.nodes o).length = t.size
  | .leaf x, o => rfl
  | .two k a b, o => by simp [T.nodes, T.size, T.nodes_len a, T.nodes_len b]; omega
  | .times m M t, o => by simp [T.nodes, T.size, T.nodes_len t]
  | .group n t, o => by simp [T.nodes, T.size, T.nodes_len t]
theorem T.At.nodes {l : Nat → Option Nd} : ∀ (t : T) (o : Nat), T.At l t o → ∀ i, i < t.size → l (o + i) = (t.nodes o)[i]?
  | .leaf x, o, h, i, hi => by
    simp only [T.size] at hi
    obtain rfl : i = 0 := by omega
    exact h
  | .two k a b, o, ⟨h1, h2, h3⟩, i, hi => by
    simp only [T.size] at hi
    simp only [T.nodes]
    rcases Nat.lt_or_ge i a.size with c | c
    · rw [List.getElem?_append_left (by rw [T.nodes_len]; exact c)]
      exact T.At.nodes a o h1 i c
    · rw [List.getElem?_append_right (by rw [T.nodes_len]; exact c), T.nodes_len]
      rcases Nat.lt_or_ge (i - a.size) b.size with d | d
      · rw [List.getElem?_append_left (by rw [T.nodes_len]; exact d), ← T.At.nodes b _ h2 _ d]
        congr 1; omega
      · rw [List.getElem?_append_right (by rw [T.nodes_len]; exact d), T.nodes_len]
        have e : i - a.size - b.size = 0 := by omega
        rw [e, show o + i = o + a.size + b.size by omega, h3]
        rfl
  | .times m M t, o, ⟨h1, h3⟩, i, hi => by
    simp only [T.size] at hi
    simp only [T.nodes]
    rcases Nat.lt_or_ge i t.size with c | c
    · rw [List.getElem?_append_left (by rw [T.nodes_len]; exact c)]
      exact T.At.nodes t o h1 i c
    · rw [List.getElem?_append_right (by rw [T.nodes_len]; exact c), T.nodes_len]
      have e : i - t.size = 0 := by omega
      rw [e, show o + i = o + t.size by omega, h3]
      rfl
  | .group n t, o, ⟨h1, h3⟩, i, hi => by
    simp only [T.size] at hi
    simp only [T.nodes]
    rcases Nat.lt_or_ge i t.size with c | c
    · rw [List.getElem?_append_left (by rw [T.nodes_len]; exact c)]
      exact T.At.nodes t o h1 i c
    · rw [List.getElem?_append_right (by rw [T.nodes_len]; exact c), T.nodes_len]
      have e : i - t.size = 0 := by omega
      rw [e, show o + i = o + t.size by omega, h3]
      rfl
theorem IsPat.nodes {xs : List Nd} {t : T} (h : IsPat xs t) : xs = t.nodes 0 := by
  obtain ⟨_, ha, hs, _⟩ := h
  apply List.ext_getElem?
  intro i
  rcases Nat.lt_or_ge i t.size with c | c
  · have := T.At.nodes t 0 ha i c
    rw [Nat.zero_add] at this
    exact this
  · rw [List.getElem?_eq_none (by omega), List.getElem?_eq_none (by rw [T.nodes_len]; exact c)]

end Go.Proofs.YthbldjiibgnfmaaGreatDoor

namespace Go.Proofs.YthbldjiibgnfmaaGreatDoor
open Go.RowKit
set_option linter.unusedVariables false
set_option linter.unusedSimpArgs false

theorem sizeSB : (Tryz.prog.info? 67).map (fun i => i.size) = some 2 := by kernel_rfl

set_option maxRecDepth 100000 in
set_option maxHeartbeats 4000000 in
theorem check_fresh (b : Nat) (w : World) (h0 : w.cell? ⟨b, 0, none⟩ = some (.pointer none)) (hsh : w.shape? b = some (67, 2)) (hfz : w.frozen? ⟨b, 0, none⟩ = false) :
    Calls Tryz.prog 59 #[.pointer (some ⟨b, 0, none⟩)] w fun e w' => e = .returned (.tuple #[]) ∧ w' = w.setCell ⟨b, 0, none⟩ (.pointer (some ⟨b, 0, none⟩)) := by
  obtain ⟨j, hj, hjs⟩ := Option.map_eq_some_iff.1 sizeSB
  go_enter Tryz.func59, Tryz.ntmps59
  go_wp2
  rw [Lib.run_to_unsafe w ⟨b, 0, none⟩ Tryz.underlying64 Tryz.underlying115 hj (by rw [hjs]; decide) hsh (Nat.zero_lt_succ 1)]
  simp only [Result.andThen]
  rw [Oper.upon_value]
  go_wp2
  rw [run_callFunc_extern Tryz.func81 (by kernel_rfl) (by kernel_rfl) (by kernel_rfl) (e := Extern.AbiNoEscape.same) (by kernel_rfl)]
  rw [Lib.run_noEscape]
  simp only [Result.andThen]
  rw [Oper.upon_value]
  go_wp2
  rw [Lib.run_from_unsafe w ⟨b, 0, none⟩ Tryz.underlying115 Tryz.underlying64 hj hsh (by kernel_rfl)]
  simp only [Result.andThen]
  rw [Oper.upon_value]
  go_wp2
  go_end0
  exact ⟨rfl, rfl⟩

set_option maxRecDepth 100000 in
set_option maxHeartbeats 4000000 in
theorem check_used (b : Nat) (w : World) (h0 : w.cell? ⟨b, 0, none⟩ = some (.pointer (some ⟨b, 0, none⟩))) :
    Calls Tryz.prog 59 #[.pointer (some ⟨b, 0, none⟩)] w fun e w' => e = .returned (.tuple #[]) ∧ w' = w := by
  obtain ⟨j, hj, _⟩ := Option.map_eq_some_iff.1 sizeSB
  go_enter Tryz.func59, Tryz.ntmps59
  go_wp2
  rw [Lib.run_neq_ptr_same w _ Tryz.underlying64 hj]
  go_wp2
  go_end0
  exact ⟨rfl, rfl⟩

/-- The builder lies at block b and holds bs; its own rows lie at B and above. -/
def SB (B b : Nat) (bs : List Value) (w : World) : Prop := Lib.IsBuilderF 67 5 B b bs w
/-- What a call on the builder keeps. -/
def SK (B b : Nat) (w w' : World) : Prop := Below B w w' ∧ Lib.OthersKept 5 (some b) w w'

theorem check_c (B b : Nat) (bs : List Value) (w : World) (h : SB B b bs w) :
    Calls Tryz.prog 59 #[.pointer (some ⟨b, 0, none⟩)] w fun e w' => e = .returned (.tuple #[]) ∧ Lib.BuilderAtF 67 5 B b (.pointer (some ⟨b, 0, none⟩)) bs w' ∧ SK B b w w' := by
  rcases h with h | h
  · refine (check_fresh b w h.cell0 h.shape h.frozen0).mono ?_
    rintro e w' ⟨rfl, rfl⟩
    exact ⟨rfl, h.used _, (Below.refl B w).setCell (p := ⟨b, 0, none⟩) h.1 _, (Lib.OthersKept.refl _ _ w).setCell ⟨b, 0, none⟩ rfl _⟩
  · refine (check_used b w h.cell0).mono ?_
    rintro e w' ⟨rfl, rfl⟩
    exact ⟨rfl, h, Below.refl B _, Lib.OthersKept.refl _ _ _⟩

set_option maxRecDepth 100000 in
set_option maxHeartbeats 4000000 in
theorem wstr_c (B b : Nat) (bs : List Value) (s : ByteArray) (w : World) (h : SB B b bs w) (hlen : bs.length + s.size ≤ 140737488355328) (hBw : B ≤ w.heap.size) :
    Calls Tryz.prog 30 #[.pointer (some ⟨b, 0, none⟩), .string s] w fun e w' => e = .returned (.tuple #[.int .i64 s.size, .nilIface]) ∧ SB B b (bs ++ Lib.strCells s) w' ∧ SK B b w w' := by
  obtain ⟨i0, hi, hz0, hz1, hz2⟩ := info_parts infoU8
  have CK := Lib.hid (check_c B b bs w h)
  go_enter Tryz.func30, Tryz.ntmps30
  go_wp2_with fail
  refine CK.out.mono ?_
  rintro e w1 ⟨rfl, h1, hb1, hk1⟩
  obtain ⟨hB, v, hbk, hown, hne⟩ := h1
  have c1 : w1.cell? ⟨b, 1, none⟩ = some v := by rw [Lib.cell_of_heap hbk]; rfl
  go_wp2_with (at_builtin; refine Lib.wpList_append_own_stringF _ rfl _ _ 65 9 rfl B 5 i0 Tryz.underlying65 Tryz.underlying9 hi hz0 hz1 hz2 _ _ _ rfl hown s rfl ?c3 ?c4 ?c5 ?_)
  case c3 => unfold maxLen; omega
  case c4 => omega
  case c5 => have := hb1.size; omega
  intro v' w2 hown' hgrow _
  have hlt : b < w1.heap.size := (Array.getElem?_eq_some_iff.1 hbk).1
  have hb2 : w2.heap[b]? = some (.cells #[.pointer (some ⟨b, 0, none⟩), v] 67 (0, 0)) := by
    rw [hgrow.block b hlt (fun e => hne e.symm)]
    exact hbk
  have d1 : w2.cell? ⟨b, 1, none⟩ = some v := by rw [Lib.cell_of_heap hb2]; rfl
  have f1 : w2.frozen? ⟨b, 1, none⟩ = false := Lib.frozen_of_heap hb2 1
  obtain ⟨ao, n', cap, rfl⟩ : ∃ ao n' cap, v' = .slice ao n' cap := by
    rcases hown'.2 with ⟨hv, _⟩ | ⟨g, cap, cur, fz, hv, _⟩
    · exact ⟨_, _, _, hv⟩
    · exact ⟨_, _, _, hv⟩
  go_wp2
  go_ret2
  refine ⟨rfl, .inr ?_, ?_, (hk1.grown hgrow (Lib.ownsRowF_kind hown)).setCell ⟨b, 1, none⟩ rfl _⟩
  · exact Lib.BuilderAtF.put (T := 67) (e := 5) hB hb2 (bs' := bs ++ Lib.strCells s) (by simpa [Lib.strCells_length] using hown') (by decide)
  · exact (hb1.grown hgrow (by have := hb1.size; omega) (fun k hk => (hown.lt k hk).1)).setCell (p := ⟨b, 1, none⟩) hB _

end Go.Proofs.YthbldjiibgnfmaaGreatDoor

namespace Go.Proofs.YthbldjiibgnfmaaGreatDoor
open Go.RowKit
set_option linter.unusedVariables false
set_option linter.unusedSimpArgs false

theorem BuilderAtF.below {T e : TypeId} {B b : Nat} {p : Value} {bs : List Value} {w w' : World} (h : Lib.BuilderAtF T e B b p bs w) (hB : Below w.heap.size w w') : Lib.BuilderAtF T e B b p bs w' := by
  obtain ⟨h1, v, h2, h3, h4⟩ := h
  refine ⟨h1, v, (hB.block b (Array.getElem?_eq_some_iff.1 h2).1).trans h2, ⟨h3.1, ?_⟩, h4⟩
  rcases h3.2 with h | ⟨g, cap, cur, fz, e1, e2, e3, r⟩
  · exact .inl h
  · exact .inr ⟨g, cap, cur, fz, e1, e2, (hB.block g (Array.getElem?_eq_some_iff.1 e3).1).trans e3, r⟩
theorem SB.below {B b : Nat} {bs : List Value} {w w' : World} (h : SB B b bs w) (hB : Below w.heap.size w w') : SB B b bs w' := h.imp (fun x => BuilderAtF.below x hB) (fun x => BuilderAtF.below x hB)
theorem SK.of {B b : Nat} {w w' : World} (hB : Below w.heap.size w w') (h : B ≤ w.heap.size) : SK B b w w' :=
  ⟨hB.mono h, fun k o hk _ _ => (hB.block k (Array.getElem?_eq_some_iff.1 hk).1).trans hk⟩
theorem SK.trans {B b : Nat} {w w' w2 : World} (h : SK B b w w') (h' : SK B b w' w2) : SK B b w w2 := ⟨h.1.trans h'.1, h.2.trans h'.2⟩

section
variable {L C b o n cap : Nat} {xs : List Nd} {bs bs' : List Value} {w w' : World}
end

end Go.Proofs.YthbldjiibgnfmaaGreatDoor

namespace Go.Proofs.YthbldjiibgnfmaaGreatDoor
open Go.RowKit
set_option linter.unusedVariables false
set_option linter.unusedSimpArgs false

theorem cells_app (a b : List UInt8) : Lib.byteCells (a ++ b) = Lib.byteCells a ++ Lib.byteCells b := List.map_append ..
theorem cells_len (a : List UInt8) : (Lib.byteCells a).length = a.length := by simp [Lib.byteCells]

end Go.Proofs.YthbldjiibgnfmaaGreatDoor

namespace Go.Proofs.YthbldjiibgnfmaaGreatDoor
open Go.RowKit Go.Lib
set_option linter.unusedVariables false
set_option linter.unusedSimpArgs false

/-- What Parse reads of the world. -/
structure Fit4 (w : World) : Prop where
  f : Fit3 w
  v : Vars w
theorem Fit4.below {w w' : World} (h : Fit4 w) (hB : Below w.heap.size w w') : Fit4 w' := ⟨h.f.below hB, h.v.below hB⟩

end Go.Proofs.YthbldjiibgnfmaaGreatDoor
