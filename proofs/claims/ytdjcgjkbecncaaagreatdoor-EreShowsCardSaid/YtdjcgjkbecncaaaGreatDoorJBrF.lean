/- A text that is read from left to right: the walks. -/
import Derived.Test.YtdjcgjkbecncaaaGreatDoorJBrC
import Derived.Test.YtdjcgjkbecncaaaGreatDoorProg
import Derived.Test.YtdjcgjkbecncaaaGreatDoorJShelf
import Derived.WalkKit
import Derived.WalkLawsBesides
import Derived.OwnWalk
import Derived.Deep.RegionHeld3
import Derived.Deep.QuietTactic
import Derived.BigQuiet
import Derived.Lib.Hide
import Derived.Laws.DeepStrings4
import Derived.Maps.AppendAt
import Derived.Test.YtdjcgjkbecncaaaGreatDoorJSetCn
set_option linter.unusedVariables false
set_option linter.unusedSimpArgs false
set_option maxRecDepth 100000
set_option maxHeartbeats 40000000
namespace Go.Proofs.YtdjcgjkbecncaaaGreatDoor
open Go.RowKit
structure TX (w : World) (b : Nat) (T : TypeId) (cs : Array Value) (s : List UInt8) (p : Nat) : Prop where
 heap : w.heap[b]? = some (.cells cs T (0, 0))
 c0 : cs[0]? = some (.string ⟨s.toArray⟩)
 c1 : cs[1]? = some (.int .i64 (p : Int))
 p : p ≤ s.length
 s : s.length ≤ 100000
section
variable {w w' : World} {b : Nat} {T : TypeId} {cs : Array Value} {s : List UInt8} {p : Nat}
theorem TX.cell0 (h : TX w b T cs s p) : w.cell? ⟨b, 0, none⟩ = some (.string ⟨s.toArray⟩) := (cell_of _ _ _ _ h.heap 0).trans h.c0
theorem TX.cell1 (h : TX w b T cs s p) : w.cell? ⟨b, 1, none⟩ = some (.int .i64 (p : Int)) := (cell_of _ _ _ _ h.heap 1).trans h.c1
theorem TX.fz (h : TX w b T cs s p) : w.frozen? ⟨b, 1, none⟩ = false := frozen_of _ _ _ _ h.heap 1
theorem TX.lt (h : TX w b T cs s p) : b < w.heap.size := (Array.getElem?_eq_some_iff.1 h.heap).1
theorem TX.below (h : TX w b T cs s p) (hB : Below w.heap.size w w') : TX w' b T cs s p := ⟨(hB.block b h.lt).trans h.heap, h.c0, h.c1, h.p, h.s⟩
theorem TX.set (h : TX w b T cs s p) (k : Nat) (hk : k ≤ s.length) : TX (w.setCell ⟨b, 1, none⟩ (.int .i64 (k : Int))) b T (cs.setIfInBounds 1 (.int .i64 (k : Int))) s k :=
 ⟨heap_setCell_same _ b 1 _ _ _ h.heap, by rw [Array.getElem?_setIfInBounds]; simpa using h.c0, by
  rw [Array.getElem?_setIfInBounds, if_pos rfl, if_pos (Array.getElem?_eq_some_iff.1 h.c1).1], hk, h.s⟩
theorem TX.same (h : TX w b T cs s p) : cs.setIfInBounds 1 (.int .i64 (p : Int)) = cs := by
 apply Array.ext_getElem?
 intro i
 rw [Array.getElem?_setIfInBounds]
 split
 ·rename_i e
  subst e
  rw [if_pos (Array.getElem?_eq_some_iff.1 h.c1).1, h.c1]
 ·rfl
end
structure Mv (w : World) (b : Nat) (T : TypeId) (cs : Array Value) (s : List UInt8) (k : Nat) (w' : World) : Prop where
 x : TX w' b T (cs.setIfInBounds 1 (.int .i64 (k : Int))) s k
 g : w.grownBy w' (some b)
theorem set_twice (cs : Array Value) (u v : Value) : (cs.setIfInBounds 1 u).setIfInBounds 1 v = cs.setIfInBounds 1 v := by
 apply Array.ext_getElem?
 intro i
 simp only [Array.getElem?_setIfInBounds, Array.size_setIfInBounds]
 split <;> rfl
section
variable {w w1 w' : World} {b : Nat} {T : TypeId} {cs : Array Value} {s : List UInt8} {p k m : Nat}
theorem grownB {row : Option Nat} (h : Below w.heap.size w w') : w.grownBy w' row := ⟨h.os, h.tape, h.output, h.size, fun k hk _ => h.block k hk⟩
theorem Mv.trans (h : Mv w b T cs s k w1) (h' : Mv w1 b T (cs.setIfInBounds 1 (.int .i64 (k : Int))) s m w') : Mv w b T cs s m w' :=
 ⟨by have := h'.x; rwa [set_twice] at this, h.g.trans h'.g⟩
theorem Mv.of (h : TX w b T cs s p) (hB : Below w.heap.size w w') : Mv w b T cs s p w' := ⟨by rw [h.same]; exact h.below hB, grownB hB⟩
theorem Mv.below (h : Mv w b T cs s k w1) (hB : Below w1.heap.size w1 w') : Mv w b T cs s k w' := ⟨h.x.below hB, h.g.trans (grownB hB)⟩
theorem grown_setc (h : w.grownBy w1 (some b)) (j : Nat) (u : Value) : w.grownBy (w1.setCell ⟨b, j, none⟩ u) (some b) :=
 ⟨h.os, h.tape, h.output, by simpa [World.setCell] using h.size, fun k hk hr => (Below.heap_setCell _ _ _ _ (fun q => hr (by rw [q]))).trans (h.block k hk hr)⟩
theorem Mv.set (h : Mv w b T cs s k w1) (m : Nat) (hm : m ≤ s.length) : Mv w b T cs s m (w1.setCell ⟨b, 1, none⟩ (.int .i64 (m : Int))) :=
 ⟨by have := h.x.set m hm; rwa [set_twice] at this, grown_setc h.g 1 _⟩
end
def Pan (z a : Int) : Ending := .panicked [{ v := .iface 152 (.agg #[.int .i64 z, .int .i64 a]), recovered := false }]
def Outc {α : Type} (w : World) (b : Nat) (T : TypeId) (cs : Array Value) (s : List UInt8) (val : α → Value) (r : Option (α × Nat)) (e : Ending) (w' : World) : Prop :=
 match r with
 | some (a, k) => e = .returned (val a) ∧ Mv w b T cs s k w'
 | none => e = Pan 42 0 ∧ w.grownBy w' (some b)
theorem drop_arr (s : List UInt8) (p : Nat) : (⟨s.toArray⟩ : ByteArray).extract p (⟨s.toArray⟩ : ByteArray).size = ⟨(s.drop p).toArray⟩ := by
 apply ByteArray.ext
 apply Array.ext'
 simp [ByteArray.data_extract, ByteArray.size]
 exact List.take_of_length_le (by simp)
section
variable {w : World} {b : Nat} {T : TypeId} {cs : Array Value} {s : List UInt8} {p : Nat}
theorem over_c (w : World) (h : TX w b T cs s p) :
  Calls Tryz.prog 145 #[.pointer (some ⟨b, 0, none⟩)] w fun e w' => e = .returned (.bool (decide (p = s.length))) ∧ Below w.heap.size w w' := by
 have c0 := h.cell0
 have c1 := h.cell1
 have hsz : (⟨s.toArray⟩ : ByteArray).size = s.length := by simp [ByteArray.size]
 have he : ((p : Int) == (s.length : Int)) = decide (p = s.length) := by
  rw [Bool.eq_iff_iff]; simp; omega
 clear h
 go_enter Tryz.func145, Tryz.ntmps145
 go_wp2_with fail
 go_quiet (fail)
 go_wp2
 go_ret
 exact ⟨rfl, Go.below_drewN (Below.refl _ _) _⟩
theorem wrong_c (z a : Int) (w : World) :
  Calls Tryz.prog 148 #[.int .i64 z, .int .i64 a] w fun e w' => e = Pan z a ∧ w' = w := by
 go_enter Tryz.func148, Tryz.ntmps148
 go_wp2
 exact ⟨rfl, rfl, rfl⟩
theorem noset_c (w : World) :
  Calls Tryz.prog 143 #[] w fun e w' => e = Pan 42 0 ∧ w' = w := by
 have HW := Lib.hid (wrong_c 42 0 w)
 go_enter Tryz.func143, Tryz.ntmps143
 go_wp2_with fail
 refine HW.out.mono ?_
 rintro e w1 ⟨rfl, rfl⟩
 unfold Pan
 go_wp2
 exact ⟨rfl, rfl, rfl⟩
theorem slice1 (h : TX w b T cs s p) (W : World) : (Instr.slice 9 (.string ⟨s.toArray⟩) (some (.int .i64 (p : Int))) none none).run Tryz.prog W = .ok (.string ⟨(s.drop p).toArray⟩) W := by
 have hsz : (⟨s.toArray⟩ : ByteArray).size = s.length := by simp [ByteArray.size]
 have hp := h.p
 have e : (⟨s.toArray⟩ : ByteArray).extract p s.length = ⟨(s.drop p).toArray⟩ := by rw [← drop_arr, hsz]
 rw [run_slice_string_from_if (P := Tryz.prog) W 9 _ .i64 (p : Int) Tryz.underlying9, if_pos ⟨by omega, by rw [hsz]; omega⟩, hsz]
 rw [show ((p : Int)).toNat = p by omega, e]
theorem ahead_c (l : List UInt8) (w : World) (h : TX w b T cs s p) :
  Calls Tryz.prog 164 #[.pointer (some ⟨b, 0, none⟩), .string ⟨l.toArray⟩] w fun e w' => e = .returned (.bool (ah s p l)) ∧ Below w.heap.size w w' := by
 have c0 := h.cell0
 have c1 := h.cell1
 have h1 := fun W => slice1 h W
 have HP : ∀ W, Calls Tryz.prog 181 #[.string ⟨(s.drop p).toArray⟩, .string ⟨l.toArray⟩] W fun e w' => e = .returned (.bool (ah s p l)) ∧ ∃ n, w' = W.drewN n := fun W => by
  refine (Tryz.strings_HasPrefix _ _ W).mono ?_
  rintro e w' ⟨rfl, rfl⟩
  exact ⟨rfl, 0, rfl⟩
 have HQ := Lib.hid HP
 clear h HP
 go_enter Tryz.func164, Tryz.ntmps164
 go_wp2_with fail
 go_quiet (exact Calls.quiet_of (HQ.out _))
 go_wp2
 go_ret
 exact ⟨rfl, Go.below_drewN (Below.refl _ _) _⟩
end
end Go.Proofs.YtdjcgjkbecncaaaGreatDoor
namespace Go.Proofs.YtdjcgjkbecncaaaGreatDoor
open Go.RowKit
section
variable {w : World} {b : Nat} {T : TypeId} {cs : Array Value} {s : List UInt8} {p : Nat}
theorem Outc.trans {α : Type} {w w1 w' : World} {b : Nat} {T : TypeId} {cs : Array Value} {s : List UInt8} {k : Nat} {val : α → Value} {r : Option (α × Nat)} {e : Ending} (h : Mv w b T cs s k w1) (h' : Outc w1 b T (cs.setIfInBounds 1 (.int .i64 (k : Int))) s val r e w') : Outc w b T cs s val r e w' := by
 unfold Outc at *
 cases r with
 | none => exact ⟨h'.1, h.g.trans h'.2⟩
 | some a => exact ⟨h'.1, h.trans h'.2⟩
theorem Outc.no {α : Type} {w w' : World} {b : Nat} {T : TypeId} {cs : Array Value} {s : List UInt8} {val : α → Value} {r : Option (α × Nat)} (hr : r = none) (hg : w.grownBy w' (some b)) : Outc w b T cs s val r (Pan 42 0) w' := by
 subst hr; exact ⟨rfl, hg⟩
theorem Outc.yes {α : Type} {w w' : World} {b : Nat} {T : TypeId} {cs : Array Value} {s : List UInt8} {val : α → Value} {r : Option (α × Nat)} {a : α} {k : Nat} (hr : r = some (a, k)) (hm : Mv w b T cs s k w') : Outc w b T cs s val r (.returned (val a)) w' := by
 subst hr; exact ⟨rfl, hm⟩
theorem ix_c (h : TX w b T cs s p) (c : UInt8) (hc : s[p]? = some c) (W : World) : (Instr.index 9 (.string ⟨s.toArray⟩) (.int .i64 (p : Int))).run Tryz.prog W = .ok (.int .u8 (c.toNat : Int)) W := by
 have hsz : (⟨s.toArray⟩ : ByteArray).size = s.length := by simp [ByteArray.size]
 obtain ⟨hk, rfl⟩ := List.getElem?_eq_some_iff.1 hc
 rw [run_index_string (P := Tryz.prog) W 9 _ .i64 p Tryz.underlying9, dif_pos ⟨by omega, by rw [hsz]; omega⟩]
 simp
 rfl
theorem sk_no {l : List UInt8} (h : ah s p l = false) : sk s p l = p := by unfold sk; rw [h]; rfl
theorem sk_yes {l : List UInt8} (h : ah s p l = true) : sk s p l = p + l.length := by unfold sk; rw [h]; rfl
theorem skip_c (l : List UInt8) (hl : l ≠ []) (w : World) (h : TX w b T cs s p) :
  Calls Tryz.prog 142 #[.pointer (some ⟨b, 0, none⟩), .string ⟨l.toArray⟩] w fun e w' => e = .returned (.bool (ah s p l)) ∧ Mv w b T cs s (sk s p l) w' := by
 have hA := ahead_c l w h
 have hs := h.s
 have hsz : (⟨l.toArray⟩ : ByteArray).size = l.length := by simp [ByteArray.size]
 cases ha : ah s p l with
 | true =>
  rw [ha] at hA
  rw [sk_yes ha]
  have hle : p + l.length ≤ s.length := (ah_le ha).resolve_right hl
  have ew : IntKind.i64.wrap ((p : Int) + (l.length : Int)) = (p : Int) + (l.length : Int) := by simp [IntKind.wrap, IntKind.signed, IntKind.bits]; omega
  have HA := Lib.hid hA
  have HX := Lib.hid h
  clear hA h ha
  go_enter Tryz.func142, Tryz.ntmps142
  go_wp2_with fail
  refine HA.out.mono ?_
  rintro e w1 ⟨rfl, hB1⟩
  have h1 := HX.out.below hB1
  have c1 := h1.cell1
  have cf := h1.fz
  have hm := (Mv.of HX.out hB1).set (p + l.length) hle
  rw [Int.natCast_add] at hm
  have HM := Lib.hid hm
  clear HA HX h1 hm
  go_wp2
  go_ret
  exact ⟨rfl, HM.out⟩
 | false =>
  rw [ha] at hA
  rw [sk_no ha]
  have HA := Lib.hid hA
  have HX := Lib.hid h
  clear hA h ha
  go_enter Tryz.func142, Tryz.ntmps142
  go_wp2_with fail
  refine HA.out.mono ?_
  rintro e w1 ⟨rfl, hB1⟩
  have HM := Lib.hid (Mv.of HX.out hB1)
  clear HA HX
  go_wp2
  go_ret
  exact ⟨rfl, HM.out⟩
theorem bnext_c (w : World) (h : TX w b T cs s p) :
  Calls Tryz.prog 183 #[.pointer (some ⟨b, 0, none⟩)] w (Outc w b T cs s (fun c : UInt8 => .int .u8 (c.toNat : Int)) (s[p]?.map fun c => (c, p + 1))) := by
 have hO := over_c w h
 have hs := h.s
 by_cases hp : p < s.length
 ·rw [decide_eq_false (by omega)] at hO
  obtain ⟨c, hc⟩ : ∃ c, s[p]? = some c := ⟨_, List.getElem?_eq_getElem hp⟩
  have hr : (s[p]?.map fun c => (c, p + 1)) = some (c, p + 1) := by rw [hc]; rfl
  have hx := fun W => ix_c h c hc W
  have ew : IntKind.i64.wrap ((p : Int) + 1) = (p : Int) + 1 := by simp [IntKind.wrap, IntKind.signed, IntKind.bits]; omega
  have ew2 : IntKind.i64.wrap ((p : Int) + 1 - 1) = (p : Int) := by simp [IntKind.wrap, IntKind.signed, IntKind.bits]; omega
  have ew3 : IntKind.i64.wrap (p : Int) = (p : Int) := by simp [IntKind.wrap, IntKind.signed, IntKind.bits]; omega
  have HO := Lib.hid hO
  have HX := Lib.hid h
  have HR := Lib.hid hr
  clear hO h hr hc
  go_enter Tryz.func183, Tryz.ntmps183
  go_wp2_with fail
  refine HO.out.mono ?_
  rintro e w1 ⟨rfl, hB1⟩
  have h1 := HX.out.below hB1
  have c1 := h1.cell1
  have cf := h1.fz
  have hm := (Mv.of HX.out hB1).set (p + 1) hp
  rw [Int.natCast_add, Int.natCast_one] at hm
  have d0 := hm.x.cell0
  have d1 := hm.x.cell1
  rw [Int.natCast_add, Int.natCast_one] at d1
  have HM := Lib.hid hm
  clear HO HX h1 hm
  go_wp2_with fail
  go_quiet (fail)
  go_wp2
  go_ret
  exact Outc.yes HR.out (HM.out.below (Go.below_drewN (Below.refl _ _) _))
 ·have hpe : p = s.length := by have := h.p; omega
  rw [decide_eq_true hpe] at hO
  have hr : (s[p]?.map fun c => (c, p + 1)) = none := by rw [List.getElem?_eq_none (by omega)]; rfl
  have HO := Lib.hid hO
  have HN := Lib.hid fun w => noset_c w
  have HR := Lib.hid hr
  clear hO h hr
  go_enter Tryz.func183, Tryz.ntmps183
  go_wp2_with fail
  refine HO.out.mono ?_
  rintro e w1 ⟨rfl, hB1⟩
  go_wp2_with fail
  refine (HN.out w1).mono ?_
  rintro e w2 ⟨rfl, rfl⟩
  unfold Pan
  go_wp2
  exact ⟨rfl, Outc.no HR.out (grownB hB1)⟩
theorem closed_c (l : List UInt8) (hl : l ≠ []) (w : World) (h : TX w b T cs s p) :
  Calls Tryz.prog 167 #[.pointer (some ⟨b, 0, none⟩), .string ⟨l.toArray⟩] w (Outc w b T cs s (fun c : UInt8 => .int .u8 (c.toNat : Int)) (clsdP s p l)) := by
 have hN := bnext_c w h
 cases hc : s[p]? with
 | none =>
  have hr : clsdP s p l = none := by unfold clsdP; rw [hc]
  rw [hc] at hN
  have HN := Lib.hid hN
  have HR := Lib.hid hr
  clear hN h hr hc
  go_enter Tryz.func167, Tryz.ntmps167
  go_wp2_with fail
  refine HN.out.mono ?_
  rintro e w1 ⟨rfl, hg⟩
  unfold Pan
  go_wp2
  exact ⟨rfl, Outc.no HR.out hg⟩
 | some c =>
  rw [hc] at hN
  have HK := Lib.hid fun w1 (m : Mv w b T cs s (p + 1) w1) => skip_c l hl w1 m.x
  have HZ := Lib.hid fun w => noset_c w
  cases ha : ah s (p + 1) l with
  | true =>
   have hr : clsdP s p l = some (c, p + 1 + l.length) := by unfold clsdP; rw [hc]; simp only; rw [if_pos ha]
   have hk := sk_yes ha
   have HN := Lib.hid hN
   have HR := Lib.hid hr
   rw [ha, hk] at HK
   clear hN h hr hc ha hk
   go_enter Tryz.func167, Tryz.ntmps167
   go_wp2_with fail
   refine HN.out.mono ?_
   rintro e w1 ⟨rfl, hm⟩
   go_wp2_with fail
   refine (HK.out w1 hm).mono ?_
   rintro e w2 ⟨rfl, hm2⟩
   have HM := Lib.hid (hm.trans hm2)
   clear HK HN hm hm2
   go_wp2
   go_ret
   exact Outc.yes HR.out HM.out
  | false =>
   have hr : clsdP s p l = none := by unfold clsdP; rw [hc]; simp only; rw [ha]; rfl
   have HN := Lib.hid hN
   have HR := Lib.hid hr
   rw [ha] at HK
   clear hN h hr hc ha
   go_enter Tryz.func167, Tryz.ntmps167
   go_wp2_with fail
   refine HN.out.mono ?_
   rintro e w1 ⟨rfl, hm⟩
   go_wp2_with fail
   refine (HK.out w1 hm).mono ?_
   rintro e w2 ⟨rfl, hm2⟩
   have HM := Lib.hid (hm.trans hm2)
   clear HK HN hm hm2
   go_wp2_with fail
   refine (HZ.out w2).mono ?_
   rintro e w3 ⟨rfl, rfl⟩
   unfold Pan
   go_wp2
   exact ⟨rfl, Outc.no HR.out HM.out.g⟩
theorem one_c (w : World) (h : TX w b T cs s p) :
  Calls Tryz.prog 168 #[.pointer (some ⟨b, 0, none⟩)] w (Outc w b T cs s (fun c : UInt8 => .int .u8 (c.toNat : Int)) (oneP s p)) := by
 have h1 := skip_c [91, 46] (by simp) w h
 cases a1 : ah s p [91, 46] with
 | true =>
  obtain ⟨R, hR⟩ : ∃ R, R = clsdP s (p + 2) [46, 93] := ⟨_, rfl⟩
  have HR : Hid (oneP s p = R) := Lib.hid (by rw [hR]; unfold oneP; rw [if_pos a1])
  have HC := Lib.hid fun w1 (m : Mv w b T cs s (p + 2) w1) => closed_c [46, 93] (by simp) w1 m.x
  rw [← hR] at HC
  rw [a1, sk_yes a1] at h1
  have H1 := Lib.hid h1
  clear h1 a1 h hR
  go_enter Tryz.func168, Tryz.ntmps168
  go_wp2_with fail
  refine H1.out.mono ?_
  rintro e w1 ⟨rfl, hm1⟩
  go_wp2_with fail
  refine (HC.out w1 hm1).mono ?_
  intro e w2 hout
  have hout := Outc.trans hm1 hout
  clear HC H1 hm1
  cases hq : R with
  | none =>
   rw [hq] at hout
   obtain ⟨rfl, hg⟩ := hout
   unfold Pan
   go_wp2
   exact ⟨rfl, Outc.no (HR.out.trans hq) hg⟩
  | some a =>
   obtain ⟨c, k⟩ := a
   rw [hq] at hout
   obtain ⟨rfl, hm⟩ := hout
   have HM := Lib.hid hm
   go_wp2
   go_ret
   exact Outc.yes (HR.out.trans hq) HM.out
 | false =>
  rw [a1, sk_no a1] at h1
  have H1 := Lib.hid h1
  have H2 := Lib.hid fun w1 (m : Mv w b T cs s p w1) => skip_c [92, 110] (by simp) w1 m.x
  cases a2 : ah s p [92, 110] with
  | true =>
   have HR : Hid (oneP s p = some (10, p + 2)) := Lib.hid (by unfold oneP; rw [if_neg (by rw [a1]; decide), if_pos a2])
   rw [a2, sk_yes a2] at H2
   clear h1 a1 a2 h
   go_enter Tryz.func168, Tryz.ntmps168
   go_wp2_with fail
   refine H1.out.mono ?_
   rintro e w1 ⟨rfl, hm1⟩
   go_wp2_with fail
   refine (H2.out w1 hm1).mono ?_
   rintro e w2 ⟨rfl, hm2⟩
   have HM := Lib.hid (hm1.trans hm2)
   clear H1 H2 hm1 hm2
   go_wp2
   go_ret
   exact Outc.yes HR.out HM.out
  | false =>
   rw [a2, sk_no a2] at H2
   have H3 := Lib.hid fun w1 (m : Mv w b T cs s p w1) => ahead_c [91, 61] w1 m.x
   have H4 := Lib.hid fun w1 (m : Mv w b T cs s p w1) => ahead_c [91, 58] w1 m.x
   have HZ := Lib.hid fun w => noset_c w
   cases a3 : ah s p [91, 61] with
   | true =>
    have HR : Hid (oneP s p = none) := Lib.hid (by unfold oneP; rw [if_neg (by rw [a1]; decide), if_neg (by rw [a2]; decide), if_pos (by rw [a3]; rfl)])
    rw [a3] at H3
    clear h1 a1 a2 a3 h H4
    go_enter Tryz.func168, Tryz.ntmps168
    go_wp2_with fail
    refine H1.out.mono ?_
    rintro e w1 ⟨rfl, hm1⟩
    go_wp2_with fail
    refine (H2.out w1 hm1).mono ?_
    rintro e w2 ⟨rfl, hm2⟩
    have hm := hm1.trans hm2
    clear H1 H2 hm1 hm2
    go_wp2_with fail
    refine (H3.out w2 hm).mono ?_
    rintro e w3 ⟨rfl, hB3⟩
    have hm3 := hm.below hB3
    clear H3 hm hB3
    go_wp2_with fail
    refine (HZ.out w3).mono ?_
    rintro e w4 ⟨rfl, rfl⟩
    unfold Pan
    go_wp2
    exact ⟨rfl, Outc.no HR.out hm3.g⟩
   | false =>
    rw [a3] at H3
    cases a4 : ah s p [91, 58] with
    | true =>
     have HR : Hid (oneP s p = none) := Lib.hid (by unfold oneP; rw [if_neg (by rw [a1]; decide), if_neg (by rw [a2]; decide), if_pos (by rw [a3, a4]; rfl)])
     rw [a4] at H4
     clear h1 a1 a2 a3 a4 h
     go_enter Tryz.func168, Tryz.ntmps168
     go_wp2_with fail
     refine H1.out.mono ?_
     rintro e w1 ⟨rfl, hm1⟩
     go_wp2_with fail
     refine (H2.out w1 hm1).mono ?_
     rintro e w2 ⟨rfl, hm2⟩
     have hm := hm1.trans hm2
     clear H1 H2 hm1 hm2
     go_wp2_with fail
     refine (H3.out w2 hm).mono ?_
     rintro e w3 ⟨rfl, hB3⟩
     have hm3 := hm.below hB3
     clear H3 hm hB3
     go_wp2_with fail
     refine (H4.out w3 hm3).mono ?_
     rintro e w4 ⟨rfl, hB4⟩
     have hm4 := hm3.below hB4
     clear H4 hm3 hB4
     go_wp2_with fail
     refine (HZ.out w4).mono ?_
     rintro e w5 ⟨rfl, rfl⟩
     unfold Pan
     go_wp2
     exact ⟨rfl, Outc.no HR.out hm4.g⟩
    | false =>
     obtain ⟨R, hR⟩ : ∃ R, R = (s[p]?.map fun c => (c, p + 1)) := ⟨_, rfl⟩
     have HR : Hid (oneP s p = R) := Lib.hid (by rw [hR]; unfold oneP; rw [if_neg (by rw [a1]; decide), if_neg (by rw [a2]; decide), if_neg (by rw [a3, a4]; decide)]; cases s[p]? <;> rfl)
     have HC := Lib.hid fun w1 (m : Mv w b T cs s p w1) => bnext_c w1 m.x
     rw [← hR] at HC
     rw [a4] at H4
     clear h1 a1 a2 a3 a4 h HZ hR
     go_enter Tryz.func168, Tryz.ntmps168
     go_wp2_with fail
     refine H1.out.mono ?_
     rintro e w1 ⟨rfl, hm1⟩
     go_wp2_with fail
     refine (H2.out w1 hm1).mono ?_
     rintro e w2 ⟨rfl, hm2⟩
     have hm := hm1.trans hm2
     clear H1 H2 hm1 hm2
     go_wp2_with fail
     refine (H3.out w2 hm).mono ?_
     rintro e w3 ⟨rfl, hB3⟩
     have hm3 := hm.below hB3
     clear H3 hm hB3
     go_wp2_with fail
     refine (H4.out w3 hm3).mono ?_
     rintro e w4 ⟨rfl, hB4⟩
     have hm4 := hm3.below hB4
     clear H4 hm3 hB4
     go_wp2_with fail
     refine (HC.out w4 hm4).mono ?_
     intro e w5 hout
     have hout := Outc.trans hm4 hout
     clear HC hm4
     cases hq : R with
     | none =>
      rw [hq] at hout
      obtain ⟨rfl, hg⟩ := hout
      unfold Pan
      go_wp2
      exact ⟨rfl, Outc.no (HR.out.trans hq) hg⟩
     | some a =>
      obtain ⟨c, k⟩ := a
      rw [hq] at hout
      obtain ⟨rfl, hm⟩ := hout
      have HM := Lib.hid hm
      go_wp2
      go_ret
      exact Outc.yes (HR.out.trans hq) HM.out
theorem just_c (c : UInt8) (w : World) :
  Calls Tryz.prog 166 #[.int .u8 (c.toNat : Int)] w fun e w' => e = .returned (sv (rg c.toNat c.toNat)) ∧ Below w.heap.size w w' := by
 have hc : c.toNat < 256 := by have := c.toNat_lt; omega
 generalize c.toNat = n at *
 have hR0 : RangeTo n n (rg n n) := rangeTo n n hc hc
 unfold RangeTo at hR0
 generalize rg n n = F at *
 have HR := Lib.hid hR0
 clear hR0
 have r0 := Four.new w 24 (.int .u64 0) (.int .u64 0) (.int .u64 0) (.int .u64 0)
 have b0 : Below w.heap.size w (w.alloc (.cells #[.int .u64 0, .int .u64 0, .int .u64 0, .int .u64 0] 24)) := (Below.refl _ w).alloc (Nat.le_refl _) _
 go_enter Tryz.func166, Tryz.ntmps166
 go_wp2_with fail
 refine (HR.out _).mono ?_
 rintro e w1 ⟨rfl, hB1⟩
 have r1 := r0.below hB1 r0.lt
 have b1 := b0.trans (hB1.mono b0.size)
 clear r0 b0 hB1
 have r1c0 := r1.c0
 have r1c1 := r1.c1
 have r1c2 := r1.c2
 have r1c3 := r1.c3
 have r1f0 := r1.fz 0
 have r1f1 := r1.fz 1
 have r1f2 := r1.fz 2
 have r1f3 := r1.fz 3
 simp only [sv]
 go_wp2
 have q := FourS.set r1 F
 have qc0 := q.c0
 have qc1 := q.c1
 have qc2 := q.c2
 have qc3 := q.c3
 refine bodyPost_ret (v := sv F) (by simp [results, Tryz.results166, go_sem, qc0, qc1, qc2, qc3, sv]) rfl ⟨rfl, Below.set4 b1 (Nat.le_refl _) _ _ _ _⟩
end
end Go.Proofs.YtdjcgjkbecncaaaGreatDoor
namespace Go.Proofs.YtdjcgjkbecncaaaGreatDoor
open Go.RowKit
def MaxL (w : World) : Prop := ∃ m, w.cell? ⟨1, 0, none⟩ = some (.int .i64 m)
theorem MaxL.grown {w w' : World} {b : Nat} (h : MaxL w) (hg : w.grownBy w' (some b)) (hb : b ≠ 1) : MaxL w' := by
 obtain ⟨m, h⟩ := h
 refine ⟨m, ?_⟩
 have hl := cell_lt h
 have e1 : w'.heap[1]? = w.heap[1]? := hg.block _ hl (fun e => hb (Option.some.inj e).symm)
 rw [← h]
 simp only [World.cell?, e1]
theorem MaxL.below {w w' : World} (h : MaxL w) (hB : Below w.heap.size w w') : MaxL w' := by
 obtain ⟨m, h⟩ := h
 exact ⟨m, cell_keep hB h⟩
section
variable {w : World} {b : Nat} {T : TypeId} {cs : Array Value} {s : List UInt8} {p : Nat}
theorem Mv.below4 {w w1 : World} {k g : Nat} (h : Mv w b T cs s k w1) (hg : w.heap.size ≤ g) (hne : g ≠ b) (F : Nat → Bool) : Mv w b T cs s k ((((w1.setCell ⟨g, 0, none⟩ (.int .u64 (wd F 0))).setCell ⟨g, 1, none⟩ (.int .u64 (wd F 1))).setCell ⟨g, 2, none⟩ (.int .u64 (wd F 2))).setCell ⟨g, 3, none⟩ (.int .u64 (wd F 3))) := by
 have one : ∀ (W : World) (j : Nat) (u : Value), Mv w b T cs s k W → Mv w b T cs s k (W.setCell ⟨g, j, none⟩ u) := fun W j u m =>
  ⟨⟨(Below.heap_setCell W ⟨g, j, none⟩ u b (fun e => hne e.symm)).trans m.x.heap, m.x.c0, m.x.c1, m.x.p, m.x.s⟩,
   ⟨m.g.os, m.g.tape, m.g.output, by simpa [World.setCell] using m.g.size, fun i hi hr => (Below.heap_setCell W ⟨g, j, none⟩ u i (by show i ≠ g; omega)).trans (m.g.block i hi hr)⟩⟩
 exact one _ 3 _ (one _ 2 _ (one _ 1 _ (one _ 0 _ h)))
theorem Outc.map {α β : Type} {w w' : World} {val : α → Value} {val' : β → Value} {r : Option (α × Nat)} {e : Ending} (f : α → β) (hv : ∀ a, val a = val' (f a)) (h : Outc w b T cs s val r e w') : Outc w b T cs s val' (r.map fun q => (f q.1, q.2)) e w' := by
 unfold Outc at *
 cases r with
 | none => exact h
 | some a => exact ⟨by rw [h.1, hv], h.2⟩
theorem class_c (w : World) (h : TX w b T cs s p) (hm : MaxL w) :
  Calls Tryz.prog 165 #[.pointer (some ⟨b, 0, none⟩)] w (Outc w b T cs s sv (clasP s p)) := by
 have hs := h.s
 have hp := h.p
 have hlt := h.lt
 obtain ⟨C, hC⟩ : ∃ C, C = Lib.cut (s.drop p) [58, 93] := ⟨_, rfl⟩
 obtain ⟨V, hV⟩ : ∃ V, V = clsV C.1 := ⟨_, rfl⟩
 have hlen : C.1.length ≤ s.length := by
  rw [hC]; unfold Lib.cut; split
  ·simp only [List.length_take, List.length_drop]; omega
  ·simp only [List.length_drop]; omega
 have hend : C.2.2 = true → p + (C.1.length + 2) ≤ s.length := fun hc => by
  rw [hC] at hc ⊢
  unfold Lib.cut at hc ⊢
  split at hc
  ·rename_i h0
   rw [if_pos h0]
   have := Lib.index_room _ _ h0
   have hl := Lib.index_le (s.drop p) [58, 93]
   simp only [List.length_take, List.length_drop, List.length_cons, List.length_nil] at *
   omega
  ·cases hc
 have hr : clasP s p = if !V.2 || !C.2.2 then none else some (V.1, p + (C.1.length + 2)) := by rw [hV, hC]; rfl
 have h1 := fun W => slice1 h W
 obtain ⟨m, hm⟩ := hm
 have HCUT : ∀ W, W.cell? ⟨1, 0, none⟩ = some (.int .i64 m) → Calls Tryz.prog 98 #[.string ⟨(s.drop p).toArray⟩, .string ⟨#[58, 93]⟩] W fun e w' => e = .returned (.tuple #[.string ⟨C.1.toArray⟩, .string ⟨C.2.1.toArray⟩, .bool C.2.2]) ∧ ∃ n, w' = W.drewN n := fun W hW => by
  have := Tryz.strings_Cut ⟨(s.drop p).toArray⟩ ⟨#[58, 93]⟩ m W (by show (s.drop p).toArray.size < _; simp; omega) hW
  rw [hC]
  exact this
 have HQ := Lib.hid HCUT
 have HCL : ∀ W, Calls Tryz.prog 182 #[.string ⟨C.1.toArray⟩] W fun e w' => e = .returned (.tuple #[sv V.1, .bool V.2]) ∧ Below W.heap.size W w' := fun W => by
  have := class_all ⟨C.1.toArray⟩ W
  rw [hV]
  simpa using this
 have HC := Lib.hid HCL
 have HZ := Lib.hid fun w => noset_c w
 have hsz : (⟨C.1.toArray⟩ : ByteArray).size = C.1.length := by simp [ByteArray.size]
 clear hC hV HCUT HCL
 obtain ⟨nm, rst, fnd⟩ := C
 obtain ⟨F, isF⟩ := V
 simp only at hr hlen hend hsz HQ HC
 have HR := Lib.hid hr
 have HE := Lib.hid hend
 have HX := Lib.hid h
 have r0 := Four.new w 24 (.int .u64 0) (.int .u64 0) (.int .u64 0) (.int .u64 0)
 have b0 : Below w.heap.size w (w.alloc (.cells #[.int .u64 0, .int .u64 0, .int .u64 0, .int .u64 0] 24)) := (Below.refl _ w).alloc (Nat.le_refl _) _
 have x0 := h.below b0
 have c0 := x0.cell0
 have c1 := x0.cell1
 have hmm := cell_keep b0 hm
 clear hr hend h x0 hm
 go_enter Tryz.func165, Tryz.ntmps165
 go_wp2_with fail
 go_quiet (exact Calls.quiet_of (HQ.out _ (by assumption)))
 go_wp2_with fail
 refine (HC.out _).mono ?_
 rintro e w2 ⟨rfl, hB2⟩
 have r1 := r0.below (Go.below_drewN (Below.refl _ _) nq) r0.lt
 have b1 := Go.below_drewN b0 nq
 have r2 := r1.below hB2 r1.lt
 have b2 := b1.trans (hB2.mono b1.size)
 clear r0 r1 b0 b1 hB2 HC HQ c0 c1 hmm
 have hlt2 := r2.lt
 have h2 := HX.out.below b2
 have hl2 := h2.lt
 simp only [sv]
 cases isF with
 | false =>
  go_wp2_with fail
  refine (HZ.out _).mono ?_
  rintro e w3 ⟨rfl, rfl⟩
  unfold Pan
  go_wp2
  refine ⟨rfl, Outc.no (by rw [HR.out]; rfl) (grownB ?_)⟩
  exact b2.alloc b2.size _
 | true =>
  cases fnd with
  | false =>
   go_wp2_with fail
   refine (HZ.out _).mono ?_
   rintro e w3 ⟨rfl, rfl⟩
   unfold Pan
   go_wp2
   refine ⟨rfl, Outc.no (by rw [HR.out]; rfl) (grownB ?_)⟩
   exact b2.alloc b2.size _
  | true =>
   have hle := HE.out rfl
   have m3 := (Mv.of HX.out b2).set (p + (nm.length + 2)) hle
   have d1 := h2.cell1
   have df := h2.fz
   have ew1 : IntKind.i64.wrap ((nm.length : Int) + 2) = (nm.length : Int) + 2 := by simp [IntKind.wrap, IntKind.signed, IntKind.bits]; omega
   have ew2 : IntKind.i64.wrap ((p : Int) + ((nm.length : Int) + 2)) = (p : Int) + ((nm.length : Int) + 2) := by simp [IntKind.wrap, IntKind.signed, IntKind.bits]; omega
   have hne : w.heap.size ≠ b := by omega
   have ecast : ((p + (nm.length + 2) : Nat) : Int) = (p : Int) + ((nm.length : Int) + 2) := by omega
   rw [ecast] at m3
   have m4 := m3.below4 (Nat.le_refl _) hne F
   have m5 := m4.below ((Below.refl _ _).alloc (Nat.le_refl _) (.cells #[.int .u64 (wd F 0), .int .u64 (wd F 1), .int .u64 (wd F 2), .int .u64 (wd F 3)] 24))
   have r4 := r2.other (p := ⟨b, 1, none⟩) hne (.int .i64 ((p : Int) + ((nm.length : Int) + 2)))
   have r2c0 := r2.c0
   have r2c1 := r2.c1
   have r2c2 := r2.c2
   have r2c3 := r2.c3
   have r2f0 := r2.fz 0
   have r2f1 := r2.fz 1
   have r2f2 := r2.fz 2
   have r2f3 := r2.fz 3
   have HM := Lib.hid m5
   have HR4 := Lib.hid r4
   clear HX m3 m4 m5 r2 h2 b2 r4
   go_wp2
   have q := (FourS.set HR4.out F).alloc (.cells #[.int .u64 (wd F 0), .int .u64 (wd F 1), .int .u64 (wd F 2), .int .u64 (wd F 3)] 24)
   have qc0 := q.c0
   have qc1 := q.c1
   have qc2 := q.c2
   have qc3 := q.c3
   refine bodyPost_ret (v := sv F) (by simp [results, Tryz.results165, go_sem, qc0, qc1, qc2, qc3, sv]) rfl ?_
   exact Outc.yes (by rw [HR.out]; rfl) HM.out
end
end Go.Proofs.YtdjcgjkbecncaaaGreatDoor
