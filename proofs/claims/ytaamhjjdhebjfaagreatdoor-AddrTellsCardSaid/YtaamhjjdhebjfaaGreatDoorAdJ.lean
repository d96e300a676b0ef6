/- Numbers read; three and seven cells. -/
import Derived.Test.YtaamhjjdhebjfaaGreatDoorAdI
import Derived.Test.YtaamhjjdhebjfaaGreatDoorAdB
import Derived.Test.YtaamhjjdhebjfaaGreatDoorShelf
import Derived.Lib.SmallJoins
import Derived.Lib.AppendIntMem
import Derived.Lib.ItoaLen
import Derived.Lib.CutLaws
import Derived.Lib.FrozenHead2
namespace Go.Proofs.YtaamhjjdhebjfaaGreatDoor
open Go.RowKit Go.Lib
set_option linter.unusedVariables false
set_option linter.unusedSimpArgs false

/-- 3 cells, in whatever world. -/
structure Three (w : World) (b : Nat) (t : TypeId) (v0 v1 v2 : Value) : Prop where
  heap : w.heap[b]? = some (.cells #[v0, v1, v2] t (0, 0))
section
variable {w : World} {b : Nat} {t : TypeId} {v0 v1 v2 : Value}
theorem Three.c0 (h : Three w b t v0 v1 v2) : w.cell? ⟨b, 0, none⟩ = some v0 := by simp [World.cell?, h.heap]
theorem Three.c1 (h : Three w b t v0 v1 v2) : w.cell? ⟨b, 1, none⟩ = some v1 := by simp [World.cell?, h.heap]
theorem Three.c2 (h : Three w b t v0 v1 v2) : w.cell? ⟨b, 2, none⟩ = some v2 := by simp [World.cell?, h.heap]
theorem Three.fz (h : Three w b t v0 v1 v2) (j : Nat) : w.frozen? ⟨b, j, none⟩ = false := by simp [World.frozen?, h.heap]
theorem Three.lt (h : Three w b t v0 v1 v2) : b < w.heap.size := (Array.getElem?_eq_some_iff.1 h.heap).1
theorem Three.below {B : Nat} {w' : World} (h : Three w b t v0 v1 v2) (hB : Below B w w') (hb : b < B) : Three w' b t v0 v1 v2 := ⟨(hB.block b hb).trans h.heap⟩
theorem Three.beside {w' : World} (h : Three w b t v0 v1 v2) (hB : Below w.heap.size w w') : Three w' b t v0 v1 v2 := h.below hB h.lt
theorem Three.alloc (h : Three w b t v0 v1 v2) (o : Obj) : Three (w.alloc o) b t v0 v1 v2 := h.beside ((Below.refl _ w).alloc (Nat.le_refl _) o)
theorem Three.drew (h : Three w b t v0 v1 v2) : Three w.drew b t v0 v1 v2 := ⟨h.heap⟩
theorem Three.new (w : World) (t : TypeId) (v0 v1 v2 : Value) : Three (w.alloc (.cells #[v0, v1, v2] t)) w.heap.size t v0 v1 v2 := ⟨by show (w.heap.push _)[w.heap.size]? = _; simp⟩
theorem Three.other (h : Three w b t v0 v1 v2) {p : Addr} (hp : b ≠ p.block) (u : Value) : Three (w.setCell p u) b t v0 v1 v2 := ⟨(Below.heap_setCell w p u b hp).trans h.heap⟩
theorem Three.s (h : Three w b t v0 v1 v2) (u0 u1 u2 : Value) : Three (((w.setCell ⟨b, 0, none⟩ u0).setCell ⟨b, 1, none⟩ u1).setCell ⟨b, 2, none⟩ u2) b t u0 u1 u2 := ⟨by rw [heap_setCell_same _ b 2 _ t u2 (heap_setCell_same _ b 1 _ t u1 (heap_setCell_same _ b 0 _ t u0 (h.heap)))]; rfl⟩
end
theorem Below.set3 {B : Nat} {a w : World} (h : Below B a w) {b : Nat} (hb : B ≤ b) (u0 u1 u2 : Value) : Below B a (((w.setCell ⟨b, 0, none⟩ u0).setCell ⟨b, 1, none⟩ u1).setCell ⟨b, 2, none⟩ u2) := ((h.setCell (p := ⟨b, 0, none⟩) hb u0).setCell (p := ⟨b, 1, none⟩) hb u1).setCell (p := ⟨b, 2, none⟩) hb u2
/-- 7 cells, in whatever world. -/
structure Seven (w : World) (b : Nat) (t : TypeId) (v0 v1 v2 v3 v4 v5 v6 : Value) : Prop where
  heap : w.heap[b]? = some (.cells #[v0, v1, v2, v3, v4, v5, v6] t (0, 0))
section
variable {w : World} {b : Nat} {t : TypeId} {v0 v1 v2 v3 v4 v5 v6 : Value}
theorem Seven.c0 (h : Seven w b t v0 v1 v2 v3 v4 v5 v6) : w.cell? ⟨b, 0, none⟩ = some v0 := by simp [World.cell?, h.heap]
theorem Seven.c1 (h : Seven w b t v0 v1 v2 v3 v4 v5 v6) : w.cell? ⟨b, 1, none⟩ = some v1 := by simp [World.cell?, h.heap]
theorem Seven.c2 (h : Seven w b t v0 v1 v2 v3 v4 v5 v6) : w.cell? ⟨b, 2, none⟩ = some v2 := by simp [World.cell?, h.heap]
theorem Seven.c3 (h : Seven w b t v0 v1 v2 v3 v4 v5 v6) : w.cell? ⟨b, 3, none⟩ = some v3 := by simp [World.cell?, h.heap]
theorem Seven.c4 (h : Seven w b t v0 v1 v2 v3 v4 v5 v6) : w.cell? ⟨b, 4, none⟩ = some v4 := by simp [World.cell?, h.heap]
theorem Seven.c5 (h : Seven w b t v0 v1 v2 v3 v4 v5 v6) : w.cell? ⟨b, 5, none⟩ = some v5 := by simp [World.cell?, h.heap]
theorem Seven.c6 (h : Seven w b t v0 v1 v2 v3 v4 v5 v6) : w.cell? ⟨b, 6, none⟩ = some v6 := by simp [World.cell?, h.heap]
theorem Seven.fz (h : Seven w b t v0 v1 v2 v3 v4 v5 v6) (j : Nat) : w.frozen? ⟨b, j, none⟩ = false := by simp [World.frozen?, h.heap]
theorem Seven.lt (h : Seven w b t v0 v1 v2 v3 v4 v5 v6) : b < w.heap.size := (Array.getElem?_eq_some_iff.1 h.heap).1
theorem Seven.below {B : Nat} {w' : World} (h : Seven w b t v0 v1 v2 v3 v4 v5 v6) (hB : Below B w w') (hb : b < B) : Seven w' b t v0 v1 v2 v3 v4 v5 v6 := ⟨(hB.block b hb).trans h.heap⟩
theorem Seven.beside {w' : World} (h : Seven w b t v0 v1 v2 v3 v4 v5 v6) (hB : Below w.heap.size w w') : Seven w' b t v0 v1 v2 v3 v4 v5 v6 := h.below hB h.lt
theorem Seven.alloc (h : Seven w b t v0 v1 v2 v3 v4 v5 v6) (o : Obj) : Seven (w.alloc o) b t v0 v1 v2 v3 v4 v5 v6 := h.beside ((Below.refl _ w).alloc (Nat.le_refl _) o)
theorem Seven.drew (h : Seven w b t v0 v1 v2 v3 v4 v5 v6) : Seven w.drew b t v0 v1 v2 v3 v4 v5 v6 := ⟨h.heap⟩
theorem Seven.new (w : World) (t : TypeId) (v0 v1 v2 v3 v4 v5 v6 : Value) : Seven (w.alloc (.cells #[v0, v1, v2, v3, v4, v5, v6] t)) w.heap.size t v0 v1 v2 v3 v4 v5 v6 := ⟨by show (w.heap.push _)[w.heap.size]? = _; simp⟩
theorem Seven.other (h : Seven w b t v0 v1 v2 v3 v4 v5 v6) {p : Addr} (hp : b ≠ p.block) (u : Value) : Seven (w.setCell p u) b t v0 v1 v2 v3 v4 v5 v6 := ⟨(Below.heap_setCell w p u b hp).trans h.heap⟩
theorem Seven.s (h : Seven w b t v0 v1 v2 v3 v4 v5 v6) (u0 u1 u2 u3 u4 u5 u6 : Value) : Seven (((((((w.setCell ⟨b, 0, none⟩ u0).setCell ⟨b, 1, none⟩ u1).setCell ⟨b, 2, none⟩ u2).setCell ⟨b, 3, none⟩ u3).setCell ⟨b, 4, none⟩ u4).setCell ⟨b, 5, none⟩ u5).setCell ⟨b, 6, none⟩ u6) b t u0 u1 u2 u3 u4 u5 u6 := ⟨by rw [heap_setCell_same _ b 6 _ t u6 (heap_setCell_same _ b 5 _ t u5 (heap_setCell_same _ b 4 _ t u4 (heap_setCell_same _ b 3 _ t u3 (heap_setCell_same _ b 2 _ t u2 (heap_setCell_same _ b 1 _ t u1 (heap_setCell_same _ b 0 _ t u0 (h.heap)))))))]; rfl⟩
end
theorem Below.set7 {B : Nat} {a w : World} (h : Below B a w) {b : Nat} (hb : B ≤ b) (u0 u1 u2 u3 u4 u5 u6 : Value) : Below B a (((((((w.setCell ⟨b, 0, none⟩ u0).setCell ⟨b, 1, none⟩ u1).setCell ⟨b, 2, none⟩ u2).setCell ⟨b, 3, none⟩ u3).setCell ⟨b, 4, none⟩ u4).setCell ⟨b, 5, none⟩ u5).setCell ⟨b, 6, none⟩ u6) := ((((((h.setCell (p := ⟨b, 0, none⟩) hb u0).setCell (p := ⟨b, 1, none⟩) hb u1).setCell (p := ⟨b, 2, none⟩) hb u2).setCell (p := ⟨b, 3, none⟩) hb u3).setCell (p := ⟨b, 4, none⟩) hb u4).setCell (p := ⟨b, 5, none⟩) hb u5).setCell (p := ⟨b, 6, none⟩) hb u6

/-- What addr asks of the library's variables. -/
structure Fit6 (w : World) : Prop where
  max : ∃ m, w.cell? ⟨0, 0, none⟩ = some (.int .i64 m)
  syn : ∃ tp p, w.var? Tryz.prog "strconv.ErrSyntax" = some #[.iface tp p]
  rng : ∃ tp p, w.var? Tryz.prog "strconv.ErrRange" = some #[.iface tp p]
  pow : Lib.TabIs Tryz.prog w "internal/strconv.uint64pow10" .u64 Lib.pow10Tab
theorem synNamed : ∃ g, Tryz.prog.globalNamed "strconv.ErrSyntax" = some g := Option.isSome_iff_exists.1 (by kernel_rfl)
theorem rngNamed : ∃ g, Tryz.prog.globalNamed "strconv.ErrRange" = some g := Option.isSome_iff_exists.1 (by kernel_rfl)
theorem Fit6.below {w w' : World} (h : Fit6 w) (hB : Below w.heap.size w w') : Fit6 w' := by
  obtain ⟨⟨m, h1⟩, ⟨t, p, h2⟩, ⟨t', p', h3⟩, h4⟩ := h
  obtain ⟨g, hg⟩ := synNamed
  obtain ⟨g', hg'⟩ := rngNamed
  exact ⟨⟨m, cell_keep hB h1⟩, ⟨t, p, Joins.var_stays hg h2 hB (Nat.le_refl _)⟩, ⟨t', p', Joins.var_stays hg' h3 hB (Nat.le_refl _)⟩, Lib.tabBelow_of_tabIs h4 w' hB⟩
theorem Fit6.beside {w w' : World} {B : Nat} (h : Fit6 w) (hB : Below B w w') (hb : w.heap.size ≤ B) : Fit6 w' := h.below (hB.mono hb)

theorem atoi_c (s : ByteArray) (hs : s.size ≤ 281474976710656) (w : World) (h : Fit6 w) :
    Calls Tryz.prog 52 #[.string s] w fun e w' => (∃ v x, e = .returned (.tuple #[.int .i64 v, x]) ∧ ((x = .nilIface ∧ rdNum s.data.toList = v) ∨ (∃ tp p, x = .iface tp p) ∧ rdNum s.data.toList = -1)) ∧ Below w.heap.size w w' := by
  unfold rdNum
  cases hq : Lib.atoiAll s.data.toList with
  | ok v =>
    refine (Tryz.strconv_Atoi_ok s (by omega) v hq w).mono ?_
    rintro e w' ⟨rfl, rfl | ⟨t, rfl⟩⟩
    · exact ⟨⟨v, _, rfl, Or.inl ⟨rfl, rfl⟩⟩, Below.refl _ _⟩
    · exact ⟨⟨v, _, rfl, Or.inl ⟨rfl, rfl⟩⟩, Joins.below_bytesWorld _ _ _ _ (Nat.le_refl _)⟩
  | range =>
    obtain ⟨tp, p, hv⟩ := h.rng
    refine (Tryz.strconv_Atoi_range_var s hs hq tp p w hv).mono ?_
    rintro e w' ⟨N, rfl, _, _, hB⟩
    exact ⟨⟨_, _, rfl, Or.inr ⟨⟨_, _, rfl⟩, rfl⟩⟩, hB⟩
  | _ =>
    obtain ⟨tp, p, hv⟩ := h.syn
    refine (Any.strconv_Atoi_syntax_var Tryz.laysC172 s hs hq tp p w hv).mono ?_
    rintro e w' ⟨N, rfl, _, _, hB⟩
    exact ⟨⟨_, _, rfl, Or.inr ⟨⟨_, _, rfl⟩, rfl⟩⟩, hB⟩

set_option maxRecDepth 100000 in
set_option maxHeartbeats 8000000 in
theorem readnum_c (s : ByteArray) (hs : s.size ≤ 281474976710656) (w : World) (h : Fit6 w) :
    Calls Tryz.prog 44 #[.string s] w fun e w' => e = .returned (.int .i64 (rdNum s.data.toList)) ∧ Below w.heap.size w w' := by
  have HA := Lib.hid (atoi_c s hs w h)
  go_enter Tryz.func44, Tryz.ntmps44
  go_wp2_with fail
  refine HA.out.mono ?_
  rintro e w' ⟨⟨v, x, rfl, ⟨rfl, hv⟩ | ⟨⟨tp, p, rfl⟩, hv⟩⟩, hB⟩
  · have HV := Lib.hid hv
    clear hv
    go_wp2
    go_ret
    exact ⟨by rw [HV.out]; rfl, hB⟩
  · have HV := Lib.hid hv
    clear hv
    go_wp2
    go_ret
    exact ⟨by rw [HV.out]; rfl, hB⟩

theorem itoa_c (n : Int) (h0 : 0 ≤ n) (h1 : n ≤ 9999999999) (w : World) (h : Fit6 w) :
    Calls Tryz.prog 26 #[.int .i64 n] w fun e w' => e = .returned (.string ⟨(itoa n).toArray⟩) ∧ Below w.heap.size w w' := by
  refine (Tryz.strconv_Itoa n (by omega) (by omega) w h.pow).mono ?_
  rintro e w' ⟨rfl, k, os, rfl⟩
  exact ⟨rfl, Lib.below_grow _ _ (Nat.le_refl _) k os⟩

end Go.Proofs.YtaamhjjdhebjfaaGreatDoor
