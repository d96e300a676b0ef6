/- ere: the map of readers. -/
import Derived.Test.YtdjcgjkbecncaaaGreatDoorJEpO
import Derived.Maps.OwnSet
import Derived.Laws.EntriesVeiled
import Derived.Test.YtdjcgjkbecncaaaGreatDoorJEqB
import Derived.Test.YtdjcgjkbecncaaaGreatDoorJShelf
import Derived.Lib.IndexBytes
import Derived.Lib.CutLaws
set_option linter.unusedVariables false
set_option linter.unusedSimpArgs false
set_option maxRecDepth 100000
set_option maxHeartbeats 40000000
namespace Go.Proofs.YtdjcgjkbecncaaaGreatDoor
open Go.RowKit Go.Maps
theorem wf_u8 {n : Nat} (h : n < 256) : (Lit.int .u8 (n : Int)).wf = true := by
 simp [Lit.wf, IntKind.min, IntKind.max, IntKind.signed, IntKind.bits]; omega
def RF (v : Value) : Option (DataW Value × List MemPlace) := some (.held v, [])
def spB (n : Nat) : Bool := n == 94 || n == 36 || n == 46 || n == 91 || n == 40 || n == 41 || n == 124 || n == 92 || n == 42 || n == 43 || n == 63 || n == 123
def fnB (n : Nat) : Value := .func (.func (if n = 94 then 56 else if n = 36 then 57 else if n = 46 then 58 else if n = 91 then 59
 else if n = 40 then 60 else if n = 41 then 61 else if n = 124 then 62 else if n = 92 then 63
 else if n = 42 then 64 else if n = 43 then 65 else if n = 63 then 66 else 67)) #[] #[]
def keysB : List Nat := [94, 36, 46, 91, 40, 41, 124, 92, 42, 43, 63, 123]
def datB : DataW Value := keysB.foldl (fun (D : DataW Value) (n : Nat) => D.put (.int .u8 (n : Int)) (.held (fnB n))) (.map [])
theorem datB_has : ∀ n : Nat, n < 256 → Maps.has datB (.int .u8 (n : Int)) = spB n := by decide +kernel
theorem datB_at (z : DataW Value) : ∀ n ∈ keysB, datB.atKey (.int .u8 (n : Int)) z = .held (fnB n) := by
 intro n hn
 simp only [keysB, List.mem_cons, List.not_mem_nil, or_false] at hn
 rcases hn with rfl | rfl | rfl | rfl | rfl | rfl | rfl | rfl | rfl | rfl | rfl | rfl <;> kernel_rfl
theorem spB_mem {n : Nat} (h : spB n = true) : n ∈ keysB := by
 simp only [spB, Bool.or_eq_true, beq_iff_eq] at h
 simp only [keysB, List.mem_cons, List.not_mem_nil, or_false]
 omega
structure MapSp (mo : Obj) (mb : Nat) : Prop where
 nc : mo.isCells = false
 look : ∀ (c : UInt8) (W : World), W.heap[mb]? = some mo → ∃ v, (Instr.lookup 59 (.map (some mb)) (.int .u8 (c.toNat : Int)) true).run Tryz.prog W = .ok (.tuple #[v, .bool (spB c.toNat)]) W ∧ (spB c.toNat = true → v = fnB c.toNat)
theorem keyedB : Keyed Tryz.prog 5 := int_keyed Tryz.underlying5
theorem mapSp_of {w : World} {b : Nat} (h : w.ownsMap Tryz.prog 5 RF b 12 datB) : ∃ mo, w.heap[b]? = some mo ∧ MapSp mo b := by
 obtain ⟨es, clock, hb, F, hs, hD⟩ := h
 refine ⟨_, hb, rfl, fun c W hW => ?_⟩
 have hc := c.toNat_lt
 have hown : W.ownsMap Tryz.prog 5 RF b 12 datB := ⟨es, clock, hW, F, hs, hD⟩
 have hz : (zeroValue 61).run Tryz.prog W = .ok .nilFunc W := by kernel_rfl
 obtain ⟨v, ps, hrun, hv⟩ := hown.look_ok keyedB Tryz.underlying59 hz (zd := .held .nilFunc) (zp := []) rfl (key := .int .u8 (c.toNat : Int)) (kl := .int .u8 (c.toNat : Int)) (keyOf_int_mk Tryz.underlying5 (wf_u8 (by omega)))
 refine ⟨v, by rw [hrun, datB_has _ hc], fun hsp => ?_⟩
 rw [datB_at _ _ (spB_mem hsp)] at hv
 cases hv
 rfl
theorem readers_c (w : World) : Calls Tryz.prog 28 #[] w fun e w' => e = .returned (.map (some w.heap.size)) ∧ (∃ mo, w'.heap[w.heap.size]? = some mo ∧ MapSp mo w.heap.size) ∧ Below w.heap.size w w' := by
 have h0 := World.ownsMap_made w Tryz.prog 5 RF
 have key : ∀ n : Nat, n < 256 → keyOf Tryz.prog 5 (.int .u8 (n : Int)) = some (.int .u8 (n : Int)) := fun n hn => keyOf_int_mk Tryz.underlying5 (wf_u8 (by omega))
 have HB0 : Below w.heap.size w (w.alloc (.map #[] 0)) := (Below.refl _ w).alloc (Nat.le_refl _) _
 have hbelow : ∀ {u v : World}, Below w.heap.size w u → u.grownBy v (some w.heap.size) → Below w.heap.size w v := fun hu hg => hu.grown hg hu.size (fun k e => by cases e; exact Nat.le_refl _)
 have hmk : (Instr.makeMap 59 none).run Tryz.prog w = .ok (.map (some w.heap.size)) (w.alloc (.map #[] 0)) := rfl
 obtain ⟨w1, r1, h1, g1⟩ := h0.update (t := 59) (e := 61) keyedB Tryz.underlying59 (by decide) (key := .int .u8 94) (val := .func (.func 56) #[] #[]) (kl := .int .u8 94) (d := .held (fnB 94)) (ps := []) (key 94 (by decide)) rfl
 have HB1 := hbelow HB0 g1
 obtain ⟨w2, r2, h2, g2⟩ := h1.update (t := 59) (e := 61) keyedB Tryz.underlying59 (by decide) (key := .int .u8 36) (val := .func (.func 57) #[] #[]) (kl := .int .u8 36) (d := .held (fnB 36)) (ps := []) (key 36 (by decide)) rfl
 have HB2 := hbelow HB1 g2
 obtain ⟨w3, r3, h3, g3⟩ := h2.update (t := 59) (e := 61) keyedB Tryz.underlying59 (by decide) (key := .int .u8 46) (val := .func (.func 58) #[] #[]) (kl := .int .u8 46) (d := .held (fnB 46)) (ps := []) (key 46 (by decide)) rfl
 have HB3 := hbelow HB2 g3
 obtain ⟨w4, r4, h4, g4⟩ := h3.update (t := 59) (e := 61) keyedB Tryz.underlying59 (by decide) (key := .int .u8 91) (val := .func (.func 59) #[] #[]) (kl := .int .u8 91) (d := .held (fnB 91)) (ps := []) (key 91 (by decide)) rfl
 have HB4 := hbelow HB3 g4
 obtain ⟨w5, r5, h5, g5⟩ := h4.update (t := 59) (e := 61) keyedB Tryz.underlying59 (by decide) (key := .int .u8 40) (val := .func (.func 60) #[] #[]) (kl := .int .u8 40) (d := .held (fnB 40)) (ps := []) (key 40 (by decide)) rfl
 have HB5 := hbelow HB4 g5
 obtain ⟨w6, r6, h6, g6⟩ := h5.update (t := 59) (e := 61) keyedB Tryz.underlying59 (by decide) (key := .int .u8 41) (val := .func (.func 61) #[] #[]) (kl := .int .u8 41) (d := .held (fnB 41)) (ps := []) (key 41 (by decide)) rfl
 have HB6 := hbelow HB5 g6
 obtain ⟨w7, r7, h7, g7⟩ := h6.update (t := 59) (e := 61) keyedB Tryz.underlying59 (by decide) (key := .int .u8 124) (val := .func (.func 62) #[] #[]) (kl := .int .u8 124) (d := .held (fnB 124)) (ps := []) (key 124 (by decide)) rfl
 have HB7 := hbelow HB6 g7
 obtain ⟨w8, r8, h8, g8⟩ := h7.update (t := 59) (e := 61) keyedB Tryz.underlying59 (by decide) (key := .int .u8 92) (val := .func (.func 63) #[] #[]) (kl := .int .u8 92) (d := .held (fnB 92)) (ps := []) (key 92 (by decide)) rfl
 have HB8 := hbelow HB7 g8
 obtain ⟨w9, r9, h9, g9⟩ := h8.update (t := 59) (e := 61) keyedB Tryz.underlying59 (by decide) (key := .int .u8 42) (val := .func (.func 64) #[] #[]) (kl := .int .u8 42) (d := .held (fnB 42)) (ps := []) (key 42 (by decide)) rfl
 have HB9 := hbelow HB8 g9
 obtain ⟨w10, r10, h10, g10⟩ := h9.update (t := 59) (e := 61) keyedB Tryz.underlying59 (by decide) (key := .int .u8 43) (val := .func (.func 65) #[] #[]) (kl := .int .u8 43) (d := .held (fnB 43)) (ps := []) (key 43 (by decide)) rfl
 have HB10 := hbelow HB9 g10
 obtain ⟨w11, r11, h11, g11⟩ := h10.update (t := 59) (e := 61) keyedB Tryz.underlying59 (by decide) (key := .int .u8 63) (val := .func (.func 66) #[] #[]) (kl := .int .u8 63) (d := .held (fnB 63)) (ps := []) (key 63 (by decide)) rfl
 have HB11 := hbelow HB10 g11
 obtain ⟨w12, r12, h12, g12⟩ := h11.update (t := 59) (e := 61) keyedB Tryz.underlying59 (by decide) (key := .int .u8 123) (val := .func (.func 67) #[] #[]) (kl := .int .u8 123) (d := .held (fnB 123)) (ps := []) (key 123 (by decide)) rfl
 have HB12 := hbelow HB11 g12
 have hd : w12.ownsMap Tryz.prog 5 RF w.heap.size 12 datB := h12
 have H := Lib.hid (And.intro (mapSp_of hd) HB12)
 clear hd h1 g1 HB1 h2 g2 HB2 h3 g3 HB3 h4 g4 HB4 h5 g5 HB5 h6 g6 HB6 h7 g7 HB7 h8 g8 HB8 h9 g9 HB9 h10 g10 HB10 h11 g11 HB11 h12 g12 HB12 h0 HB0 hbelow key
 go_enter Tryz.func28, Tryz.ntmps28
 go_wp2
 go_ret
 exact ⟨rfl, H.out.1, H.out.2⟩
end Go.Proofs.YtdjcgjkbecncaaaGreatDoor
namespace Go.Proofs.YtdjcgjkbecncaaaGreatDoor
open Go.RowKit Go.Shelf
def ecut1 (u : List UInt8) : List UInt8 := u.takeWhile (· != 125)
def erest1 (u : List UInt8) : List UInt8 := (u.dropWhile (· != 125)).drop 1
def efnd (u : List UInt8) : Bool := u.any (· == 125)
theorem eidx10 : ∀ u : List UInt8, Lib.indexByte u 125 = if efnd u then ((ecut1 u).length : Int) else -1
 | [] => rfl
 | b :: l => by
  have ih := eidx10 l
  by_cases h : b = 125
  ·subst h; simp [Lib.indexByte, efnd, ecut1]
  ·have h1 : (b == 125) = false := by simpa using h
   have h2 : (b != 125) = true := by simp [bne, h1]
   simp only [Lib.indexByte, h1, efnd, List.any_cons, Bool.false_or, ecut1, List.takeWhile_cons, h2, if_true, Bool.false_eq_true, if_false]
   unfold efnd ecut1 at ih
   rw [ih]
   cases hl : l.any (· == 125) <;> simp <;> (try omega)
theorem ecut_none : ∀ u : List UInt8, efnd u = false → ecut1 u = u ∧ erest1 u = []
 | [], _ => ⟨rfl, rfl⟩
 | b :: l, h => by
  simp only [efnd, List.any_cons, Bool.or_eq_false_iff] at h
  have h2 : (b != 125) = true := by simp [bne, h.1]
  have ih := ecut_none l h.2
  unfold ecut1 erest1 at *
  simp only [List.takeWhile_cons, List.dropWhile_cons, h2, if_true]
  exact ⟨by rw [ih.1], ih.2⟩
theorem ecut_some : ∀ u : List UInt8, efnd u = true → u = ecut1 u ++ 125 :: erest1 u
 | [], h => by simp [efnd] at h
 | b :: l, h => by
  by_cases hb : b = 125
  ·subst hb; simp [ecut1, erest1]
  ·have h1 : (b == 125) = false := by simpa using hb
   have h2 : (b != 125) = true := by simp [bne, h1]
   have h3 : efnd l = true := by simpa [efnd, h1] using h
   have ih := ecut_some l h3
   unfold ecut1 erest1 at *
   simp only [List.takeWhile_cons, List.dropWhile_cons, h2, if_true, List.cons_append]
   rw [← ih]
theorem ecut_app (u a b : List UInt8) (h : u = a ++ 125 :: b) : u.take a.length = a ∧ u.drop (a.length + 1) = b := by
 subst h
 refine ⟨by simp, ?_⟩
 rw [show a ++ 125 :: b = (a ++ [125]) ++ b by simp, show a.length + 1 = (a ++ [125]).length by simp, List.drop_left]
theorem ecut_lib (u : List UInt8) : Lib.cut u [125] = (ecut1 u, erest1 u, efnd u) := by
 unfold Lib.cut
 rw [Lib.index_one, eidx10]
 cases h : efnd u
 ·obtain ⟨h1, h2⟩ := ecut_none u h
  simp [h1, h2]
 ·have h1 := ecut_some u h
  simp only [if_true]
  rw [if_pos (by omega)]
  have e : ((ecut1 u).length : Int).toNat = (ecut1 u).length := by omega
  rw [e]
  obtain ⟨g1, g2⟩ := ecut_app u _ _ h1
  exact Prod.ext g1 (Prod.ext g2 rfl)
theorem ecuti_c (u : List UInt8) (hu : u.length ≤ 1000000) (w : World) :
  Calls Tryz.prog 125 #[.string ⟨u.toArray⟩, .string ⟨#[125]⟩] w fun e w' => e = .returned (.tuple #[.string ⟨(ecut1 u).toArray⟩, .string ⟨(erest1 u).toArray⟩, .bool (efnd u)]) ∧ ∃ n, w' = w.drewN n := by
 obtain ⟨s, hs⟩ : ∃ s : ByteArray, s = ⟨u.toArray⟩ := ⟨_, rfl⟩
 have hd : s.data.toList = u := by rw [hs]
 have hsz : s.size = u.length := by rw [hs]; simp [ByteArray.size]
 have hc := ecut_lib u
 have hi := eidx10 u
 have hix := Lib.index_one u 125
 rw [← hs]
 cases h : efnd u
 ·rw [h] at hi
  obtain ⟨e1, e2, e3⟩ := Lib.cutB_miss s ⟨#[125]⟩ (by show Lib.index s.data.toList [125] = -1; rw [hd, hix, hi]; rfl)
  have hc2 : Lib.cut s.data.toList (⟨#[125]⟩ : ByteArray).data.toList = (ecut1 u, erest1 u, efnd u) := by rw [hd]; exact hc
  rw [hc2] at e1 e2 e3
  simp only at e1 e2
  rw [e1, e2]
  have hi2 : Lib.indexByte s.data.toList 125 = -1 := by rw [hd, hi]; rfl
  have HI := Lib.hid (Tryz.stringslite_Index_one s 125 w)
  rw [hi2] at HI
  clear e1 e2 e3 hc hc2 hi hi2 hix hd hs h
  go_enter Tryz.func125, Tryz.ntmps125
  go_wp2_with fail
  refine HI.out.mono ?_
  rintro e w' ⟨rfl, rfl⟩
  go_wp2
  go_ret3
  exact ⟨rfl, 0, rfl⟩
 ·rw [h] at hi
  have hle : (ecut1 u).length + 1 ≤ u.length := by
   have := congrArg List.length (ecut_some u h)
   simp only [List.length_append, List.length_cons] at this
   omega
  obtain ⟨i, hil⟩ : ∃ i : Nat, i = (ecut1 u).length := ⟨_, rfl⟩
  obtain ⟨e1, e2, e3⟩ := Lib.cutB_hit s ⟨#[125]⟩ i (by show Lib.index s.data.toList [125] = _; rw [hd, hix, hi, hil]; rfl)
  have hc2 : Lib.cut s.data.toList (⟨#[125]⟩ : ByteArray).data.toList = (ecut1 u, erest1 u, efnd u) := by rw [hd]; exact hc
  rw [hc2] at e1 e2 e3
  simp only at e1 e2
  rw [show (⟨#[125]⟩ : ByteArray).size = 1 from rfl] at e2
  rw [e1, e2]
  have hi2 : Lib.indexByte s.data.toList 125 = (i : Int) := by rw [hd, hi, hil]; rfl
  have HI := Lib.hid (Tryz.stringslite_Index_one s 125 w)
  rw [hi2] at HI
  have c1 : (0 : Int) ≤ ↑i := by omega
  have c2 : (↑i : Int) ≤ ↑s.size := by omega
  have c3 : (0 : Int) ≤ ↑i + 1 := by omega
  have c4 : (↑i + 1 : Int) ≤ ↑s.size := by omega
  have hsm : s.size ≤ 1000000 := by omega
  clear e1 e2 e3 hc hc2 hi hi2 hix hd hs h hle hil hsz
  go_enter Tryz.func125, Tryz.ntmps125
  go_wp2_with fail
  refine HI.out.mono ?_
  rintro e w' ⟨rfl, rfl⟩
  go_wp2_with fail
  have hmx : Tryz.prog.follows .mixedOrders = true := by kernel_rfl
  go_region_o
  go_wp2
  go_ret3
  exact ⟨rfl, 1, rfl⟩
theorem ecut_c (u : List UInt8) (hu : u.length ≤ 1000000) (w : World) :
  Calls Tryz.prog 98 #[.string ⟨u.toArray⟩, .string ⟨#[125]⟩] w fun e w' => e = .returned (.tuple #[.string ⟨(ecut1 u).toArray⟩, .string ⟨(erest1 u).toArray⟩, .bool (efnd u)]) ∧ ∃ n, w' = w.drewN n := by
 have HC := Lib.hid (ecuti_c u hu w)
 obtain ⟨s, hs⟩ : ∃ s : ByteArray, s = ⟨u.toArray⟩ := ⟨_, rfl⟩
 obtain ⟨a, ha⟩ : ∃ s : ByteArray, s = ⟨(ecut1 u).toArray⟩ := ⟨_, rfl⟩
 obtain ⟨b, hb⟩ : ∃ s : ByteArray, s = ⟨(erest1 u).toArray⟩ := ⟨_, rfl⟩
 obtain ⟨f, hf⟩ : ∃ f, f = efnd u := ⟨_, rfl⟩
 rw [← hs, ← ha, ← hb, ← hf] at HC ⊢
 clear hs ha hb hf
 go_enter Tryz.func98, Tryz.ntmps98
 go_wp2_with fail
 refine HC.out.mono ?_
 rintro e w' ⟨rfl, n, rfl⟩
 go_wp2
 go_ret3
 exact ⟨rfl, n, rfl⟩
end Go.Proofs.YtdjcgjkbecncaaaGreatDoor
namespace Go.Proofs.YtdjcgjkbecncaaaGreatDoor
open Go.RowKit
theorem wholeP_lim (s : List UInt8) (q : BRd) (h : wholeP s = .ok q) : q.l.length ≤ 120 := by
 unfold wholeP at h
 simp only at h
 split at h
 ·cases h; simp [BRd.put]
 split at h
 ·cases h
 ·split at h
  ·cases h
  split at h
  ·cases h
  ·rename_i hn
   cases h
   omega
section
variable {B b mb : Nat} {mo : Obj} {s : List UInt8} {r : ES} {vl vL : Value} {vo : List (Value × Value)} {vt : Value × Value} {w : World}
theorem ebrace_c (w : World) (hm : MaxL w) (hy : SynV w) (h : EM B b mb mo s r vl vL vo vt w) (hs5 : s.length ≤ 99990) (hp : r.p < s.length) (hi : r.ia = true → r.top.items ≠ []) (hni : r.top.items.length ≤ 200000) :
  Calls Tryz.prog 67 #[.pointer (some ⟨b, 0, none⟩)] w (SOut B b mb mo s (braceE s r) w) := by
 have d0 : w.cell? ⟨b, 0, none⟩ = some (.string ⟨s.toArray⟩) := (h.cell 0).trans rfl
 have d1 : w.cell? ⟨b, 1, none⟩ = some (.int .i64 (r.p : Int)) := (h.cell 1).trans rfl
 have HBw := Lib.hid h.Bw
 have hsl := slice_at s (r.p + 1) (by omega)
 rw [show ((r.p + 1 : Nat) : Int) = (r.p : Int) + 1 by omega] at hsl
 have ew : IntKind.i64.wrap ((r.p : Int) + 1) = (r.p : Int) + 1 := by simp [IntKind.wrap, IntKind.signed, IntKind.bits]; omega
 obtain ⟨u, hu⟩ : ∃ u, u = s.drop (r.p + 1) := ⟨_, rfl⟩
 have hul : u.length + (r.p + 1) = s.length := by rw [hu, List.length_drop]; omega
 rw [← hu] at hsl
 have hcl : (ecut1 u).length ≤ u.length := (List.takeWhile_prefix _).length_le
 have hcut := fun w => ecut_c u (by omega) w
 have hbp := fun W (hB : Below w.heap.size w W) => bparse_c ([97, 92, 123] ++ ecut1 u ++ [92, 125]) (by simp; omega) W (hm.below hB) (hy.same (hB.block _ hy.lt))
 obtain ⟨S, hS⟩ : ∃ S : ByteArray, S = ⟨s.toArray⟩ := ⟨_, rfl⟩
 obtain ⟨U, hU⟩ : ∃ U : ByteArray, U = ⟨u.toArray⟩ := ⟨_, rfl⟩
 obtain ⟨T, hT⟩ : ∃ T : ByteArray, T = ⟨(ecut1 u).toArray⟩ := ⟨_, rfl⟩
 obtain ⟨R, hR⟩ : ∃ R : ByteArray, R = ⟨(erest1 u).toArray⟩ := ⟨_, rfl⟩
 obtain ⟨f, hf⟩ : ∃ f, f = efnd u := ⟨_, rfl⟩
 obtain ⟨v, hv⟩ : ∃ v, v = [97, 92, 123] ++ ecut1 u ++ [92, 125] := ⟨_, rfl⟩
 have hcat : (⟨([97, 92, 123] ++ ecut1 u ++ [92, 125]).toArray⟩ : ByteArray) = ((⟨#[97, 92, 123]⟩ : ByteArray) ++ T) ++ ⟨#[92, 125]⟩ := by
  apply ByteArray.ext
  apply Array.ext'
  rw [hT]
  simp
 have htl : T.size = (ecut1 u).length := by rw [hT]; simp [ByteArray.size]
 rw [hcat, ← hv] at hbp
 rw [← hS] at d0 hsl
 rw [← hU] at hsl hcut
 rw [← hT, ← hR, ← hf] at hcut
 have HC := Lib.hid hcut
 have HBP := Lib.hid hbp
 have hbE : braceE s r = match numE u with
  | none => .error 43
  | some (n, m, M) => timesE r n m M := by rw [hu]; rfl
 have hnE : numE u = match wholeP v with
  | .error _ => none
  | .ok q => if f then some ((ecut1 u).length + 2, (q.l.getLastD (kindNd 0)).mn, (q.l.getLastD (kindNd 0)).mx) else none := by rw [hv, hf]; rfl
 clear hcut hbp hcat hS hU hT hR hf hv
 cases hq : wholeP v with
 | error er =>
  obtain ⟨z, a⟩ := er
  have hz : (z == 0) = false := by
   have := (wholeP_er v _ hq).2
   simp only at this
   rw [beq_eq_false_iff_ne]; omega
  have hE : braceE s r = .error 43 := by rw [hbE, hnE, hq]
  rw [hE]
  have HQ := Lib.hid hq
  clear h hm hy hE hq hbE hnE hu
  cases f
  ·go_enter Tryz.func67, Tryz.ntmps67
   go_wp2_with fail
   go_region_with (go_at_call 98; refine (HC.out _).mono ?_; rintro e w1 ⟨rfl, nq, rfl⟩)
   all_goals (
    go_wp2_with fail
    refine (HBP.out _ (Go.below_drewN (Below.refl w.heap.size w) _)).mono ?_
    rintro e w2 ⟨hO, hB2⟩
    have hBw2 := (Go.below_drewN (Below.refl w.heap.size w) _).trans (hB2.mono (Below.size (Go.below_drewN (Below.refl w.heap.size w) _)))
    clear hB2
    unfold POut at hO
    rw [HQ.out] at hO
    simp only at hO
    subst hO
    have HB2 := Lib.hid (hBw2.mono HBw.out)
    clear hBw2
    go_wp2
    go_ret
    exact ⟨HB2.out, rfl⟩)
  ·go_enter Tryz.func67, Tryz.ntmps67
   go_wp2_with fail
   go_region_with (go_at_call 98; refine (HC.out _).mono ?_; rintro e w1 ⟨rfl, nq, rfl⟩)
   all_goals (
    go_wp2_with fail
    refine (HBP.out _ (Go.below_drewN (Below.refl w.heap.size w) _)).mono ?_
    rintro e w2 ⟨hO, hB2⟩
    have hBw2 := (Go.below_drewN (Below.refl w.heap.size w) _).trans (hB2.mono (Below.size (Go.below_drewN (Below.refl w.heap.size w) _)))
    clear hB2
    unfold POut at hO
    rw [HQ.out] at hO
    simp only at hO
    subst hO
    have HB2 := Lib.hid (hBw2.mono HBw.out)
    clear hBw2
    go_wp2
    go_ret
    exact ⟨HB2.out, rfl⟩)
 | ok q =>
  have HQ := Lib.hid hq
  cases f with
  | false =>
   have hE : braceE s r = .error 43 := by rw [hbE, hnE, hq]; rfl
   rw [hE]
   clear h hm hy hE hq hbE hnE hu
   go_enter Tryz.func67, Tryz.ntmps67
   go_wp2_with fail
   go_region_with (go_at_call 98; refine (HC.out _).mono ?_; rintro e w1 ⟨rfl, nq, rfl⟩)
   all_goals (
    go_wp2_with fail
    refine (HBP.out _ (Go.below_drewN (Below.refl w.heap.size w) _)).mono ?_
    rintro e w2 ⟨hO, hB2⟩
    have hBw2 := (Go.below_drewN (Below.refl w.heap.size w) _).trans (hB2.mono (Below.size (Go.below_drewN (Below.refl w.heap.size w) _)))
    clear hB2
    unfold POut at hO
    rw [HQ.out] at hO
    obtain ⟨vq, rfl, hown, hob⟩ := hO
    clear hown hob
    have HB2 := Lib.hid (hBw2.mono HBw.out)
    clear hBw2
    go_wp2
    go_ret
    exact ⟨HB2.out, rfl⟩)
  | true =>
   obtain ⟨k, x, hk, hx⟩ : ∃ k x, q.l.length = k + 1 ∧ q.l[k]? = some x := by
    have := wholeP_one v q hq
    exact ⟨q.l.length - 1, q.l[q.l.length - 1]'(by omega), by omega, List.getElem?_eq_getElem (by omega)⟩
   have hlast : q.l.getLastD (kindNd 0) = x := by
    rw [List.getLastD_eq_getLast?, List.getLast?_eq_getElem?, hk, show k + 1 - 1 = k by omega, hx]; rfl
   have hnn : numE u = some ((ecut1 u).length + 2, x.mn, x.mx) := by rw [hnE, hq, ← hlast]; rfl
   have hnl := numE_le hnn
   have hE : braceE s r = timesE r ((ecut1 u).length + 2) x.mn x.mx := by rw [hbE, hnn]
   rw [hE]
   have hk121 : k ≤ 120 := by have := wholeP_lim v q hq; omega
   have ht := fun W (hB : Below w.heap.size w W) => etimes_c ((ecut1 u).length + 2) x.mn x.mx W (h.below hB) (by omega) hi hni
   rw [show (((ecut1 u).length + 2 : Nat) : Int) = 1 + ((ecut1 u).length : Int) + 1 by omega] at ht
   have HT := Lib.hid ht
   have HN := Lib.hid hk
   have HX := Lib.hid hx
   clear ht h hm hy hE hq hbE hnE hu hnn hnl hlast
   go_enter Tryz.func67, Tryz.ntmps67
   go_wp2_with fail
   go_region_with (go_at_call 98; refine (HC.out _).mono ?_; rintro e w1 ⟨rfl, nq, rfl⟩)
   all_goals (
    go_wp2_with fail
    refine (HBP.out _ (Go.below_drewN (Below.refl w.heap.size w) _)).mono ?_
    rintro e w2 ⟨hO, hB2⟩
    have hBw2 := (Go.below_drewN (Below.refl w.heap.size w) _).trans (hB2.mono (Below.size (Go.below_drewN (Below.refl w.heap.size w) _)))
    clear hB2
    unfold POut at hO
    rw [HQ.out] at hO
    obtain ⟨vq, rfl, hown, hob⟩ := hO
    rcases hown.2 with ⟨_, h0⟩ | ⟨gq, capq, cur, hvq, _, hg, hnq, _⟩
    ·exact absurd h0 (by have := HN.out; omega)
    subst hvq
    rw [HN.out] at hown hnq ⊢
    have c0 : w2.cell? ⟨gq, k * 10 + 0, none⟩ = some (.int .i64 x.kind) := by rw [hown.cellAt _ (by omega), flat_get _ _ 0 x HX.out (by omega)]; rfl
    have c1 : w2.cell? ⟨gq, k * 10 + 1, none⟩ = some (.int .u64 x.w0) := by rw [hown.cellAt _ (by omega), flat_get _ _ 1 x HX.out (by omega)]; rfl
    have c2 : w2.cell? ⟨gq, k * 10 + 2, none⟩ = some (.int .u64 x.w1) := by rw [hown.cellAt _ (by omega), flat_get _ _ 2 x HX.out (by omega)]; rfl
    have c3 : w2.cell? ⟨gq, k * 10 + 3, none⟩ = some (.int .u64 x.w2) := by rw [hown.cellAt _ (by omega), flat_get _ _ 3 x HX.out (by omega)]; rfl
    have c4 : w2.cell? ⟨gq, k * 10 + 4, none⟩ = some (.int .u64 x.w3) := by rw [hown.cellAt _ (by omega), flat_get _ _ 4 x HX.out (by omega)]; rfl
    have c5 : w2.cell? ⟨gq, k * 10 + 5, none⟩ = some (.int .i64 x.a) := by rw [hown.cellAt _ (by omega), flat_get _ _ 5 x HX.out (by omega)]; rfl
    have c6 : w2.cell? ⟨gq, k * 10 + 6, none⟩ = some (.int .i64 x.b) := by rw [hown.cellAt _ (by omega), flat_get _ _ 6 x HX.out (by omega)]; rfl
    have c7 : w2.cell? ⟨gq, k * 10 + 7, none⟩ = some (.int .i64 x.mn) := by rw [hown.cellAt _ (by omega), flat_get _ _ 7 x HX.out (by omega)]; rfl
    have c8 : w2.cell? ⟨gq, k * 10 + 8, none⟩ = some (.int .i64 x.mx) := by rw [hown.cellAt _ (by omega), flat_get _ _ 8 x HX.out (by omega)]; rfl
    have c9 : w2.cell? ⟨gq, k * 10 + 9, none⟩ = some (.int .i64 x.n) := by rw [hown.cellAt _ (by omega), flat_get _ _ 9 x HX.out (by omega)]; rfl
    have c0 : w2.cell? ⟨gq, k * 10, none⟩ = some (.int .i64 x.kind) := c0
    have HT2 := Lib.hid (fun W' (hB : Below w2.heap.size w2 W') => HT.out W' (hBw2.trans (hB.mono hBw2.size)))
    have HB2 := Lib.hid hBw2
    clear hown hob hBw2 hg
    go_wp2_with fail
    refine (HT2.out _ ((Below.refl _ w2).alloc (Nat.le_refl _) _)).mono ?_
    intro e w3 hO2
    have HO : Hid (SOut B b mb mo s (timesE r ((ecut1 u).length + 2) x.mn x.mx) w e w3) := Lib.hid ⟨((HB2.out.mono HBw.out).trans ((Below.refl B w2).alloc (by have := HB2.out.size; have := HBw.out; omega) _)).trans hO2.1, hO2.2⟩
    unfold SOut at hO2
    obtain ⟨_, hm2⟩ := hO2
    split at hm2
    ·obtain ⟨rfl, _⟩ := hm2
     go_wp2
     go_ret
     exact HO.out
    ·subst hm2
     go_wp2
     go_ret
     exact HO.out)
end
end Go.Proofs.YtdjcgjkbecncaaaGreatDoor
namespace Go.Proofs.YtdjcgjkbecncaaaGreatDoor
open Go.RowKit
def FOut (B b mb : Nat) (mo : Obj) (s : List UInt8) (x : Except Er ES) (w : World) (e : Ending) (w' : World) : Prop :=
 Below B w w' ∧ match x with
 | .ok r => e = .returned (.tuple #[.int .i64 0, .int .i64 0]) ∧ ∃ vl vL vo vt, EM B b mb mo s r vl vL vo vt w'
 | .error (z, a) => e = .returned (.tuple #[.int .i64 (a : Int), .int .i64 z])
section
variable {B b mb : Nat} {mo : Obj} {s : List UInt8} {r : ES} {vl vL : Value} {vo : List (Value × Value)} {vt : Value × Value} {w : World}
theorem efinish_c (w : World) (h : EM B b mb mo s r vl vL vo vt w) (hi : r.top.items.length ≤ 200000) (hr : r.top.rows.length ≤ 200000) (hlo : r.lo.length ≤ 100000) :
  Calls Tryz.prog 30 #[.pointer (some ⟨b, 0, none⟩)] w (FOut B b mb mo s (finE s r) w) := by
 have hge := h.ge
 have hlen := h.len
 have hER := eendRow_c w h hi hr
 cases hq : endE r with
 | none =>
  have hE : finE s r = .error (40, s.length) := by unfold finE; rw [hq]
  rw [hE]
  have HR := Lib.hid hER
  have HQ := Lib.hid hq
  obtain ⟨S, hS⟩ : ∃ S : ByteArray, S = ⟨s.toArray⟩ := ⟨_, rfl⟩
  have hsz : S.size = s.length := by rw [hS]; simp [ByteArray.size]
  have HS := Lib.hid hS
  clear h hER hE hq hS
  go_enter Tryz.func30, Tryz.ntmps30
  go_wp2_with fail
  refine HR.out.mono ?_
  intro e w1 ho
  unfold ROutE at ho
  rw [HQ.out] at ho
  obtain ⟨rfl, hx, hB⟩ := ho
  have d0 : w1.cell? ⟨b, 0, none⟩ = some (.string S) := by rw [HS.out]; exact (hx.cell 0).trans rfl
  have HB := Lib.hid hB
  clear hB hx
  go_wp2
  go_ret2
  exact ⟨HB.out, rfl⟩
 | some q =>
  have hk := endE_ok hq
  have HR := Lib.hid hER
  have HQ := Lib.hid hq
  have HK := Lib.hid hk
  have hqlo : q.lo.length ≤ 100000 := by rw [hk.2.1]; exact hlo
  by_cases hl0 : q.lo = []
  ·obtain ⟨l, z, hz⟩ : ∃ l z, q.top.rows = l ++ [z] := by
    rcases List.eq_nil_or_concat q.top.rows with e | ⟨l, z, e⟩
    ·have := hk.2.2.2.2.2.2.2; rw [e] at this; simp at this
    ·exact ⟨l, z, by rw [e, List.concat_eq_append]⟩
   obtain ⟨l', hl'⟩ := chE_eq 5 q (l ++ [z])
   have hE : finE s r = if 120 < l'.length then .error (2, 0) else .ok { q with l := l' } := by
    unfold finE
    rw [hq]
    show (if q.lo ≠ [] then _ else _) = _
    rw [if_neg (by simp [hl0]), hz, hl']
   have hll : l.length ≤ 200000 := by have := hk.2.2.2.2.2.2.2; rw [hz] at this; simp at this; omega
   have HE := Lib.hid hE
   have HCL := Lib.hid hl'
   have HZ := Lib.hid hz
   have HL0 := Lib.hid hl0
   clear h hER hq hk hE hl' hz hl0 hqlo
   go_enter Tryz.func30, Tryz.ntmps30
   go_wp2_with fail
   refine HR.out.mono ?_
   intro e w1 ho
   unfold ROutE at ho
   rw [HQ.out] at ho
   obtain ⟨rfl, ⟨vl1, vt1, hx⟩, hB⟩ := ho
   obtain ⟨gL, capL, hL, hgB, _, _, hgl, _⟩ := hx.P.top
   rw [HL0.out] at hL
   simp only [List.length_nil] at hL
   have d3 : w1.cell? ⟨b, 3, none⟩ = some (.slice (some ⟨gL, 0, none⟩) (0 + 1) capL) := by rw [← hL]; exact (hx.cell 3).trans rfl
   have HTOP := Lib.hid (etop_c w1 hx (gL := gL) (cap := capL) (by rw [HL0.out]; exact hL))
   have HX := Lib.hid hx
   have HB := Lib.hid hB
   have HL := Lib.hid hL
   clear hx hB hL HR
   go_wp2_with fail
   refine HTOP.out.mono ?_
   rintro e w4 ⟨rfl, nq, rfl⟩
   have bW : Below w1.heap.size w1 (w1.drewN nq) := Go.below_drewN (Below.refl _ _) nq
   generalize w1.drewN nq = W at *
   have hEW := HX.out.below bW
   have ho := (lvs_snoc hEW.P.ls).2.a
   rw [HZ.out, show (l ++ [z]).length = l.length + 1 by simp] at ho
   obtain ⟨gi, capi, hv1, hci, hcm, hint, hgI⟩ := ints_of ho (by simp)
   have t2 : W.cell? ⟨gL, q.lo.length * 4 + 2, none⟩ = some (.slice (some ⟨gi, 0, none⟩) (l.length + 1) capi) := by
    obtain ⟨g', c', e, _, hcell, _⟩ := hEW.P.top
    rw [HL.out, show q.lo.length = 0 by rw [HL0.out]; rfl] at e
    cases e
    rw [← hv1]
    exact hcell 2 _ rfl
   have hch := echain_c 5 l z gi capi W hEW hci (by omega) hcm hint hgI
   rw [HCL.out] at hch
   have HCH := Lib.hid hch
   have HBB := Lib.hid (HB.out.trans (bW.mono (by have := HX.out.lt; have := HX.out.ge; omega)))
   clear hch hint hgI ho hEW bW d3
   go_wp2_with fail
   refine HCH.out.mono ?_
   rintro e w5 ⟨rfl, vl5, hE5, hk5⟩
   obtain ⟨o5, cap5, hv5⟩ := hE5.slice
   have d2 : w5.cell? ⟨b, 2, none⟩ = some (.slice o5 l'.length cap5) := by rw [← hv5]; exact (hE5.cell 2).trans rfl
   have HX5 := Lib.hid hE5
   have HB5 := Lib.hid (HBB.out.trans hk5.bel)
   clear hE5 hk5 hv5 HCH
   by_cases h120 : 120 < l'.length
   ·have hg : ((120 : Int) < (l'.length : Int)) = True := by simp; omega
    have HR := Lib.hid (show finE s r = .error (2, 0) by rw [HE.out, if_pos h120])
    clear h120
    go_wp2
    go_ret2
    rw [HR.out]
    exact ⟨HB5.out, rfl⟩
   ·have hg : ((120 : Int) < (l'.length : Int)) = False := by simp; omega
    have HR := Lib.hid (show finE s r = .ok { q with l := l' } by rw [HE.out, if_neg h120])
    clear h120
    go_wp2
    go_ret2
    rw [HR.out]
    exact ⟨HB5.out, rfl, _, _, _, _, HX5.out⟩
  ·have hE : finE s r = .error (41, q.top.p) := by unfold finE; rw [hq]; simp [hl0]
   rw [hE]
   have hpos : 0 < q.lo.length := List.length_pos_iff.2 hl0
   clear h hER hq hk hE hl0
   go_enter Tryz.func30, Tryz.ntmps30
   go_wp2_with fail
   refine HR.out.mono ?_
   intro e w1 ho
   unfold ROutE at ho
   rw [HQ.out] at ho
   obtain ⟨rfl, ⟨vl1, vt1, hx⟩, hB⟩ := ho
   obtain ⟨gL, capL, hL, hgB, hcell, _, hgl, _⟩ := hx.P.top
   have d3 : w1.cell? ⟨b, 3, none⟩ = some (.slice (some ⟨gL, 0, none⟩) (q.lo.length + 1) capL) := by rw [← hL]; exact (hx.cell 3).trans rfl
   have HTOP := Lib.hid (etop_c w1 hx hL)
   have HX := Lib.hid hx
   have HB := Lib.hid hB
   have HL := Lib.hid hL
   have hg : ((1 : Int) < (q.lo.length : Int) + 1) = True := by simp; omega
   have hgB' : B ≤ w1.heap.size := by have := hx.lt; have := hx.ge; omega
   clear hx hB hL HR hcell
   go_wp2_with fail
   refine HTOP.out.mono ?_
   rintro e w4 ⟨rfl, nq, rfl⟩
   have bW : Below w1.heap.size w1 (w1.drewN nq) := Go.below_drewN (Below.refl _ _) nq
   generalize w1.drewN nq = W at *
   have hEW := HX.out.below bW
   have t0 : W.cell? ⟨gL, q.lo.length * 4, none⟩ = some (.int .i64 (q.top.p : Int)) := by
    obtain ⟨g', c', e, _, hcell, _⟩ := hEW.P.top
    rw [HL.out] at e
    cases e
    exact hcell 0 _ rfl
   have HBB := Lib.hid (HB.out.trans (bW.mono hgB'))
   clear hEW bW d3
   go_wp2
   go_ret2
   exact ⟨HBB.out, rfl⟩
end
end Go.Proofs.YtdjcgjkbecncaaaGreatDoor
namespace Go.Proofs.YtdjcgjkbecncaaaGreatDoor
open Go.RowKit
section
variable {B b mb : Nat} {mo : Obj} {s : List UInt8} {r : ES} {vl vL : Value} {vo vo' : List (Value × Value)} {vt vt' : Value × Value} {w : World} {lo' : List EL} {t : EL}
theorem EM.pop (h : EM B b mb mo s r vl vL vo vt w) {gL cap : Nat} (hL : vL = .slice (some ⟨gL, 0, none⟩) (r.lo.length + 1) cap) (hlo : r.lo = lo' ++ [t]) (hvo : vo = vo' ++ [vt']) :
  EM B b mb mo s (popE r t lo') vl (.slice (some ⟨gL, 0, none⟩) r.lo.length cap) vo' vt' (w.setCell ⟨b, 3, none⟩ (.slice (some ⟨gL, 0, none⟩) r.lo.length cap)) := by
 obtain ⟨hls, htl⟩ := lvs_snoc h.P.ls
 obtain ⟨a1, a2, a3⟩ := ap_parts h.P.ap
 have hll := lvs_len hls
 have hset : ∀ k, k ≠ b → (w.setCell ⟨b, 3, none⟩ (.slice (some ⟨gL, 0, none⟩) r.lo.length cap)).heap[k]? = w.heap[k]? := fun k hk => Below.heap_setCell _ _ _ _ (fun e => hk e)
 have hK : KeepT [] b w (w.setCell ⟨b, 3, none⟩ (.slice (some ⟨gL, 0, none⟩) r.lo.length cap)) := fun k o hk hne _ => (hset k hne).trans hk
 have hw := h.P.lw
 have hw2 : w.ownsRow B 55 4 (.slice (some ⟨gL, 0, none⟩) r.lo.length cap) r.lo.length (lrow4 r.lo vo) := by
  rw [lrow4_app _ _ _ _ hll, show (r.lo ++ [r.top]).length = r.lo.length + 1 by simp, hL] at hw
  rcases hw.2 with ⟨_, h0⟩ | ⟨g, cap', cur, e, hB, hg, hn, hc, hs, ht⟩
  ·omega
  ·cases e
   refine ⟨lrow4_len _ _ hll, .inr ⟨gL, cap, cur, rfl, hB, hg, by omega, hc, hs, ?_⟩⟩
   have h2 := congrArg (List.take (r.lo.length * 4)) ht
   rw [List.take_take, Nat.min_eq_left (by omega), List.take_append_of_le_length (by rw [lrow4_len _ _ hll]; omega)] at h2
   exact h2.trans (List.take_of_length_le (by rw [lrow4_len _ _ hll]; omega))
 have hob := own_blk hw2 h.heap (by decide)
 have hw3 := own_keepT hw2 hK (by simp) hob
 refine ⟨?_, h.ge, (hset mb h.mb_ne).trans h.map, h.nc, ⟨own_keepT h.P.nl hK (by simp) (own_blk h.P.nl h.heap (by decide)), ?_, ?_, ?_, h.P.nodes⟩, h.len, h.small, h.gs⟩
 ·rw [heap_setCell_same _ b 3 _ _ _ h.heap]; rfl
 ·show World.ownsRow _ B _ 4 _ (lo' ++ [t]).length (lrow4 (lo' ++ [t]) (vo' ++ [vt']))
  rw [← hlo, ← hvo]
  exact hw3
 ·show LVs B _ (lo' ++ [t]) (vo' ++ [vt'])
  rw [← hlo, ← hvo]
  exact LVs.keep (fun v n xs hv => own_keepT hv hK (by simp) (own_blk hv h.heap (by decide))) hls
 ·rw [← hvo]; exact a1
end
end Go.Proofs.YtdjcgjkbecncaaaGreatDoor
