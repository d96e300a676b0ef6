/- ere: list. -/
import Derived.Test.YtdjcgjkbecncaaaGreatDoorJEpF
import Derived.Deep.RegionHeld3
import Derived.BigQuiet
set_option linter.unusedVariables false
set_option linter.unusedSimpArgs false
set_option maxRecDepth 100000
set_option maxHeartbeats 40000000
namespace Go.Proofs.YtdjcgjkbecncaaaGreatDoor
open Go.RowKit
def SOut (B b mb : Nat) (mo : Obj) (s : List UInt8) (x : Except Int ES) (w : World) (e : Ending) (w' : World) : Prop :=
 Below B w w' ∧ match x with
 | .ok r => e = .returned (.int .i64 0) ∧ ∃ vl vL vo vt, EM B b mb mo s r vl vL vo vt w'
 | .error z => e = .returned (.int .i64 z)
section
variable {B b mb : Nat} {mo : Obj} {s : List UInt8} {r : ES} {vl vL : Value} {vo : List (Value × Value)} {vt : Value × Value} {w : World}
theorem IOut.step {q : ES} {e : Ending} {w' : World} (h : IOut B b mb mo s vL vo q w e w') : SOut B b mb mo s (.ok q) w e w' := by
 obtain ⟨h1, ⟨vl', vt', h2⟩, h3⟩ := h
 exact ⟨h3, h1, vl', vL, vo, vt', h2⟩
theorem elist_c (w : World) (hm : MaxL w) (h : EM B b mb mo s r vl vL vo vt w) (hbk : ∀ F m, brkP (s.drop r.p) = some (F, m) → r.p + m ≤ s.length) (hi : r.top.items.length ≤ 200000) :
  Calls Tryz.prog 59 #[.pointer (some ⟨b, 0, none⟩)] w (SOut B b mb mo s (listE s r) w) := by
 have d0 : w.cell? ⟨b, 0, none⟩ = some (.string ⟨s.toArray⟩) := (h.cell 0).trans rfl
 have d1 : w.cell? ⟨b, 1, none⟩ = some (.int .i64 (r.p : Int)) := (h.cell 1).trans rfl
 have hsl := slice_at s r.p h.small
 obtain ⟨S, hS⟩ : ∃ S : ByteArray, S = ⟨s.toArray⟩ := ⟨_, rfl⟩
 obtain ⟨U, hU⟩ : ∃ U : ByteArray, U = ⟨(s.drop r.p).toArray⟩ := ⟨_, rfl⟩
 have hl := h.len
 have hlt := h.lt
 have hbr := fun w1 hm1 => bracket_c (s.drop r.p) (by rw [List.length_drop]; omega) w1 hm1
 have hmd : MaxL w.drew := hm
 rw [← hS] at d0 hsl
 rw [← hU] at hsl hbr
 have HBw := Lib.hid h.Bw
 cases hq : brkP (s.drop r.p) with
 | none =>
  have hE : listE s r = .error 42 := by unfold listE; rw [hq]
  rw [hE]
  rw [hq] at hbr
  unfold sv at hbr
  have HB := Lib.hid (fun W (hB : Below w.heap.size w W) => hbr W (hm.below hB))
  clear hbr h hbk hE hq hS hU hm hmd
  go_enter Tryz.func59, Tryz.ntmps59
  go_wp2_with fail
  go_region_held3 (fun w' => (w'.cell? ⟨b, 0, none⟩ = some (.string S) ∧ w'.cell? ⟨b, 1, none⟩ = some (.int .i64 (r.p : Int))) ∧ Below w.heap.size w w') (first | with_reducible assumption | ((repeat' apply And.intro) <;> first | with_reducible assumption | with_reducible exact cell_alloc1 _ (by with_reducible assumption) | with_reducible exact cell_set4 (by with_reducible assumption) (by omega) | exact Below.refl _ _ | exact Below.drew (Below.refl _ _) | exact (Below.alloc (Below.refl _ _) (Nat.le_refl _) _).drew | exact Below.drew (by with_reducible assumption) | exact Below.alloc (by with_reducible assumption) (Below.size (by with_reducible assumption)) _ | exact Below.set4 (by with_reducible assumption) (Nat.le_refl _) _ _ _ _ | go_keep))
   (first
    | (go_at_call 94; have hh := ‹_ ∧ Below _ _ _›; obtain ⟨⟨c0, c1⟩, hb⟩ := hh; refine (HB.out _ hb).mono ?_; rintro e w1 ⟨rfl, hB1⟩; (try (have q4 := (hB1.block w.heap.size (by show _ < (w.alloc (Obj.cells #[.int .u64 0, .int .u64 0, .int .u64 0, .int .u64 0] 24)).heap.size; rw [World.size_alloc]; omega)).trans (heap_new w (Obj.cells #[.int .u64 0, .int .u64 0, .int .u64 0, .int .u64 0] 24)); have y0 : w1.cell? ⟨w.heap.size, 0, none⟩ = some (.int .u64 0) := (cell_of _ _ _ _ q4 0).trans rfl; have g0 := frozen_of _ _ _ _ q4 0; have y1 : w1.cell? ⟨w.heap.size, 1, none⟩ = some (.int .u64 0) := (cell_of _ _ _ _ q4 1).trans rfl; have g1 := frozen_of _ _ _ _ q4 1; have y2 : w1.cell? ⟨w.heap.size, 2, none⟩ = some (.int .u64 0) := (cell_of _ _ _ _ q4 2).trans rfl; have g2 := frozen_of _ _ _ _ q4 2; have y3 : w1.cell? ⟨w.heap.size, 3, none⟩ = some (.int .u64 0) := (cell_of _ _ _ _ q4 3).trans rfl; have g3 := frozen_of _ _ _ _ q4 3; clear q4)); have c0 := cell_keep hB1 c0; have c1 := cell_keep hB1 c1; have hb := hb.trans (hB1.mono hb.size); clear hB1))
  all_goals (
   have hh := ‹_ ∧ Below _ _ _›
   have HE := Lib.hid (hh.2.mono HBw.out)
   clear hh
   go_wp2
   go_ret
   exact ⟨HE.out, rfl⟩)
 | some q =>
  obtain ⟨F, m⟩ := q
  have hE : listE s r = .ok (r.item (setNd F) m true) := by unfold listE; rw [hq]
  rw [hE]
  rw [hq] at hbr
  have HB := Lib.hid (fun W (hB : Below w.heap.size w W) => hbr W (hm.below hB))
  have HY := Lib.hid (fun W (hB : Below w.heap.size w W) => ebytes_c F m W (h.below hB) (hbk F m hq) hi)
  unfold sv at HB HY
  clear hbr h hbk hE hq hS hU hm hmd
  go_enter Tryz.func59, Tryz.ntmps59
  go_wp2_with fail
  go_region_held3 (fun w' => (w'.cell? ⟨b, 0, none⟩ = some (.string S) ∧ w'.cell? ⟨b, 1, none⟩ = some (.int .i64 (r.p : Int))) ∧ Below w.heap.size w w') (first | with_reducible assumption | ((repeat' apply And.intro) <;> first | with_reducible assumption | with_reducible exact cell_alloc1 _ (by with_reducible assumption) | with_reducible exact cell_set4 (by with_reducible assumption) (by omega) | exact Below.refl _ _ | exact Below.drew (Below.refl _ _) | exact (Below.alloc (Below.refl _ _) (Nat.le_refl _) _).drew | exact Below.drew (by with_reducible assumption) | exact Below.alloc (by with_reducible assumption) (Below.size (by with_reducible assumption)) _ | exact Below.set4 (by with_reducible assumption) (Nat.le_refl _) _ _ _ _ | go_keep))
   (first
    | (go_at_call 94; have hh := ‹_ ∧ Below _ _ _›; obtain ⟨⟨c0, c1⟩, hb⟩ := hh; refine (HB.out _ hb).mono ?_; rintro e w1 ⟨rfl, hB1⟩; (try (have q4 := (hB1.block w.heap.size (by show _ < (w.alloc (Obj.cells #[.int .u64 0, .int .u64 0, .int .u64 0, .int .u64 0] 24)).heap.size; rw [World.size_alloc]; omega)).trans (heap_new w (Obj.cells #[.int .u64 0, .int .u64 0, .int .u64 0, .int .u64 0] 24)); have y0 : w1.cell? ⟨w.heap.size, 0, none⟩ = some (.int .u64 0) := (cell_of _ _ _ _ q4 0).trans rfl; have g0 := frozen_of _ _ _ _ q4 0; have y1 : w1.cell? ⟨w.heap.size, 1, none⟩ = some (.int .u64 0) := (cell_of _ _ _ _ q4 1).trans rfl; have g1 := frozen_of _ _ _ _ q4 1; have y2 : w1.cell? ⟨w.heap.size, 2, none⟩ = some (.int .u64 0) := (cell_of _ _ _ _ q4 2).trans rfl; have g2 := frozen_of _ _ _ _ q4 2; have y3 : w1.cell? ⟨w.heap.size, 3, none⟩ = some (.int .u64 0) := (cell_of _ _ _ _ q4 3).trans rfl; have g3 := frozen_of _ _ _ _ q4 3; clear q4)); have c0 := cell_keep hB1 c0; have c1 := cell_keep hB1 c1; have hb := hb.trans (hB1.mono hb.size); clear hB1))
  all_goals (
   have hh := ‹_ ∧ Below _ _ _›
   have HE := Lib.hid (hh.2.mono HBw.out)
   have HV := Lib.hid (HY.out _ hh.2)
   clear hh
   go_wp2_with fail
   refine HV.out.mono ?_
   rintro e w2 hO
   have HO := Lib.hid (hO.ahead HE.out).step
   obtain ⟨rfl, hE, hB2⟩ := hO
   clear hE hB2
   go_wp2
   go_ret
   exact HO.out)
end
end Go.Proofs.YtdjcgjkbecncaaaGreatDoor
namespace Go.Proofs.YtdjcgjkbecncaaaGreatDoor
open Go.RowKit
theorem equoted_in : ∀ n : Nat, n < 256 → (decide (0 ≤ Lib.indexByte [46, 91, 92, 40, 41, 42, 43, 63, 123, 125, 124, 94, 36] (UInt8.ofNat n)) = decide (UInt8.ofNat n ∈ ([46, 91, 92, 40, 41, 42, 43, 63, 123, 125, 124, 94, 36] : List UInt8))) := by decide +kernel
theorem eix_c (s : List UInt8) (p : Nat) (c : UInt8) (hs : s.length ≤ 100000) (hc : s[p]? = some c) (W : World) : (Instr.index 9 (.string ⟨s.toArray⟩) (.int .i64 (p : Int))).run Tryz.prog W = .ok (.int .u8 (c.toNat : Int)) W := by
 have hsz : (⟨s.toArray⟩ : ByteArray).size = s.length := by simp [ByteArray.size]
 obtain ⟨hk, rfl⟩ := List.getElem?_eq_some_iff.1 hc
 rw [run_index_string (P := Tryz.prog) W 9 _ .i64 p Tryz.underlying9, dif_pos ⟨by omega, by rw [hsz]; omega⟩]
 simp
 rfl
section
variable {B b mb : Nat} {mo : Obj} {s : List UInt8} {r : ES} {vl vL : Value} {vo : List (Value × Value)} {vt : Value × Value} {w : World}
theorem eescape_c (w : World) (h : EM B b mb mo s r vl vL vo vt w) (hp : r.p < s.length) (hi : r.top.items.length ≤ 200000) :
  Calls Tryz.prog 63 #[.pointer (some ⟨b, 0, none⟩)] w (SOut B b mb mo s (escE s r) w) := by
 have d0 : w.cell? ⟨b, 0, none⟩ = some (.string ⟨s.toArray⟩) := (h.cell 0).trans rfl
 have d1 : w.cell? ⟨b, 1, none⟩ = some (.int .i64 (r.p : Int)) := (h.cell 1).trans rfl
 obtain ⟨S, hS⟩ : ∃ S : ByteArray, S = ⟨s.toArray⟩ := ⟨_, rfl⟩
 have hsz : S.size = s.length := by rw [hS]; simp [ByteArray.size]
 have hl := h.len
 have hsm := h.small
 have HBw := Lib.hid h.Bw
 have ew : IntKind.i64.wrap ((r.p : Int) + 1) = (r.p : Int) + 1 := by simp [IntKind.wrap, IntKind.signed, IntKind.bits]; omega
 by_cases hov : r.p + 1 = s.length
 ·have hE : escE s r = .error 40 := by unfold escE; rw [List.getElem?_eq_none (by omega)]
  rw [hE]
  have hq : (((r.p : Int) + 1) == (s.length : Int)) = true := by rw [beq_iff_eq]; omega
  rw [← hS] at d0
  clear h hE hS hov hp hi
  go_enter Tryz.func63, Tryz.ntmps63
  go_wp2_with fail
  refine wp_scope_fwd 0 rfl ?_
  go_wp2_with fail
  go_quiet (fail)
  rename_i nq
  go_wp2
  go_step3
  refine ⟨rfl, ?_⟩
  change Code.wp _ _ _ _ _
  go_wp2
  rw [Exit.noGoto_ret]
  refine bodyPost_ret (v := .int .i64 40) (by simp [results, Tryz.results63, go_sem]) rfl ?_
  exact ⟨Go.below_drewN (Below.refl _ _) nq, rfl⟩
 ·obtain ⟨c, hc⟩ : ∃ c, s[r.p + 1]? = some c := ⟨_, List.getElem?_eq_getElem (by omega)⟩
  have hq : (((r.p : Int) + 1) == (s.length : Int)) = false := by rw [beq_eq_false_iff_ne]; omega
  have hx := fun W => eix_c s (r.p + 1) c hl hc W
  rw [← hS, show ((r.p + 1 : Nat) : Int) = (r.p : Int) + 1 by omega] at hx
  rw [← hS] at d0
  have hE : escE s r = (if c = 110 then .ok (r.item (setNd fun i => i == 10) 2 true)
   else if c = 47 ∨ c ∈ ([46, 91, 92, 40, 41, 42, 43, 63, 123, 125, 124, 94, 36] : List UInt8) then .ok (r.item (setNd fun i => i == c.toNat) 2 true)
   else if 49 ≤ c.toNat ∧ c.toNat ≤ 57 then .error 44 else .error 40) := by unfold escE; rw [hc]
  have HE := Lib.hid hE
  have HY := Lib.hid (fun (F : Nat → Bool) W (hB : Below w.heap.size w W) => ebytes_c F 2 W (h.below hB) (by omega) hi)
  have hcl := c.toNat_lt
  clear h hE hS hov hp hi
  go_enter Tryz.func63, Tryz.ntmps63
  go_wp2_with fail
  refine wp_scope_fwd 0 rfl ?_
  go_wp2_with fail
  go_quiet (fail)
  have hB1 := Go.below_drewN (Below.refl w.heap.size w) nq
  go_wp2_with fail
  go_quiet (fail)
  have hB2 := Go.below_drewN hB1 nq
  clear hB1
  revert hB2
  generalize (w.drewN _).drewN _ = W
  intro hB2
  clear d0 d1 ew hq
  by_cases h110 : c = 110
  ·have q110 := u8_is h110 110 rfl
   have HR : Hid (escE s r = _) := Lib.hid (by rw [HE.out, if_pos h110])
   have hof := fun w => of_c ⟨#[10]⟩ (by decide) w
   have e2 : sv (inS ⟨#[10]⟩ (⟨#[10]⟩ : ByteArray).size) = sv (fun i => i == 10) := sv_congr (fun i _ => by
    show ([(10 : UInt8)].take 1).any (fun x => x.toNat == i) = _
    rw [Bool.eq_iff_iff]
    simp
    exact eq_comm)
   rw [e2] at hof
   have HOF := Lib.hid hof
   clear hof e2 HE h110 hc hx
   go_wp2_with fail
   refine (HOF.out _).mono ?_
   rintro e w5 ⟨rfl, hB5⟩
   have hB6 := hB2.trans (hB5.mono hB2.size)
   clear hB5
   go_wp2_with fail
   refine (HY.out (fun i => i == 10) _ hB6).mono ?_
   rintro e w6 hO
   have HO := Lib.hid (hO.ahead (hB6.mono HBw.out)).step
   obtain ⟨rfl, hE, hB7⟩ := hO
   clear hE hB7 hB6
   go_wp2
   rw [jump_ret]
   refine bodyPost_ret (v := .int .i64 0) (by simp [results, Tryz.results63, go_sem]) rfl ?_
   rw [HR.out]
   exact HO.out
  ·have q110 := u8_no h110 110 rfl
   by_cases h47 : c = 47
   ·have q47 := u8_is h47 47 rfl
    have HR : Hid (escE s r = _) := Lib.hid (by rw [HE.out, if_neg h110, if_pos (.inl h47)])
    have e3 : sv (rg c.toNat c.toNat) = sv (fun i => i == c.toNat) := sv_congr (fun i _ => by unfold rg; rw [Bool.eq_iff_iff]; simp; omega)
    have hrg := rangeTo c.toNat c.toNat (by omega) (by omega)
    unfold RangeTo at hrg
    rw [e3] at hrg
    have HRG := Lib.hid hrg
    clear hrg e3
    clear HE h110 h47 hc hx
    go_wp2_with fail
    refine (HRG.out _).mono ?_
    rintro e w5 ⟨rfl, hB5⟩
    have hB6 := hB2.trans (hB5.mono hB2.size)
    clear hB5
    go_wp2_with fail
    refine (HY.out (fun i => i == c.toNat) _ hB6).mono ?_
    rintro e w6 hO
    have HO := Lib.hid (hO.ahead (hB6.mono HBw.out)).step
    obtain ⟨rfl, hE, hB7⟩ := hO
    clear hE hB7 hB6
    go_wp2
    rw [jump_ret]
    refine bodyPost_ret (v := .int .i64 0) (by simp [results, Tryz.results63, go_sem]) rfl ?_
    rw [HR.out]
    exact HO.out
   ·have q47 := u8_no h47 47 rfl
    have HIX : Hid (∀ w, Calls Tryz.prog 95 #[.string ⟨#[46, 91, 92, 40, 41, 42, 43, 63, 123, 125, 124, 94, 36]⟩, .int .u8 (c.toNat : Int)] w fun e w' => (∃ z : Int, e = .returned (.int .i64 z) ∧ (0 ≤ z ↔ c ∈ ([46, 91, 92, 40, 41, 42, 43, 63, 123, 125, 124, 94, 36] : List UInt8))) ∧ w' = w) := Lib.hid fun w => by
     refine (Tryz.strings_IndexByte ⟨#[46, 91, 92, 40, 41, 42, 43, 63, 123, 125, 124, 94, 36]⟩ (c.toNat : Int) w).mono ?_
     rintro e w' ⟨rfl, rfl⟩
     have q := equoted_in c.toNat (by omega)
     have e1 : UInt8.ofNat c.toNat = c := by simp
     have e2 : ((c.toNat : Int).toNat).toUInt8 = c := by simp
     rw [e1, decide_eq_decide] at q
     rw [e2]
     exact ⟨⟨_, rfl, q⟩, rfl⟩
    by_cases hin : c ∈ ([46, 91, 92, 40, 41, 42, 43, 63, 123, 125, 124, 94, 36] : List UInt8)
    ·have HR : Hid (escE s r = _) := Lib.hid (by rw [HE.out, if_neg h110, if_pos (.inr hin)])
     have e3 : sv (rg c.toNat c.toNat) = sv (fun i => i == c.toNat) := sv_congr (fun i _ => by unfold rg; rw [Bool.eq_iff_iff]; simp; omega)
     have hrg := rangeTo c.toNat c.toNat (by omega) (by omega)
     unfold RangeTo at hrg
     rw [e3] at hrg
     have HRG := Lib.hid hrg
     clear hrg e3
     have HIN := Lib.hid hin
     clear HE h110 h47 hc hx hin
     go_wp2_with fail
     refine (HIX.out _).mono ?_
     rintro e w4 ⟨⟨z, rfl, hz⟩, rfl⟩
     have hz0 : (0 ≤ z) = True := by simp [hz.2 HIN.out]
     clear hz HIX
     go_wp2_with fail
     refine (HRG.out _).mono ?_
     rintro e w5 ⟨rfl, hB5⟩
     have hB6 := hB2.trans (hB5.mono hB2.size)
     clear hB5
     go_wp2_with fail
     refine (HY.out (fun i => i == c.toNat) _ hB6).mono ?_
     rintro e w6 hO
     have HO := Lib.hid (hO.ahead (hB6.mono HBw.out)).step
     obtain ⟨rfl, hE, hB7⟩ := hO
     clear hE hB7 hB6
     go_wp2
     rw [jump_ret]
     refine bodyPost_ret (v := .int .i64 0) (by simp [results, Tryz.results63, go_sem]) rfl ?_
     rw [HR.out]
     exact HO.out
    ·by_cases hdg : 49 ≤ c.toNat ∧ c.toNat ≤ 57
     ·have HR : Hid (escE s r = _) := Lib.hid (by rw [HE.out, if_neg h110, if_neg (by rintro (q | q); exact h47 q; exact hin q), if_pos hdg])
      have g1 : ((49 : Int) ≤ (c.toNat : Int)) = True := by simp; omega
      have g2 : ((c.toNat : Int) ≤ 57) = True := by simp; omega
      have HIN := Lib.hid hin
      clear HE h110 h47 hc hx hin hdg
      go_wp2_with fail
      refine (HIX.out _).mono ?_
      rintro e w4 ⟨⟨z, rfl, hz⟩, rfl⟩
      have hz0 : (0 ≤ z) = False := by simp; exact Int.not_le.1 (fun q => HIN.out (hz.1 q))
      clear hz HIX
      go_wp2
      rw [jump_ret]
      refine bodyPost_ret (v := .int .i64 44) (by simp [results, Tryz.results63, go_sem]) rfl ?_
      rw [HR.out]
      exact ⟨hB2.mono HBw.out, rfl⟩
     ·have HR : Hid (escE s r = _) := Lib.hid (by rw [HE.out, if_neg h110, if_neg (by rintro (q | q); exact h47 q; exact hin q), if_neg hdg])
      have gg : ((49 : Int) ≤ (c.toNat : Int)) = False ∨ (((49 : Int) ≤ (c.toNat : Int)) = True ∧ ((c.toNat : Int) ≤ 57) = False) := by
       by_cases q : 49 ≤ c.toNat
       ·exact .inr ⟨by simp; omega, by simp; omega⟩
       ·exact .inl (by simp; omega)
      have HIN := Lib.hid hin
      clear HE h110 h47 hc hx hin hdg
      rcases gg with g1 | ⟨g1, g2⟩
      all_goals (
       go_wp2_with fail
       refine (HIX.out _).mono ?_
       rintro e w4 ⟨⟨z, rfl, hz⟩, rfl⟩
       have hz0 : (0 ≤ z) = False := by simp; exact Int.not_le.1 (fun q => HIN.out (hz.1 q))
       clear hz HIX
       go_wp2
       first | refine wp_label ?_ | (go_step3; refine wp_label ?_)
       go_wp2
       rw [jump_ret]
       refine bodyPost_ret (v := .int .i64 40) (by simp [results, Tryz.results63, go_sem]) rfl ?_
       rw [HR.out]
       exact ⟨hB2.mono HBw.out, rfl⟩)
end
end Go.Proofs.YtdjcgjkbecncaaaGreatDoor
namespace Go.Proofs.YtdjcgjkbecncaaaGreatDoor
open Go.RowKit
section
variable {B b mb : Nat} {mo : Obj} {s : List UInt8} {r : ES} {vl vL : Value} {vo : List (Value × Value)} {vt : Value × Value} {w : World}
theorem EM.itemsAt (h : EM B b mb mo s r vl vL vo vt w) {l : List Int} {z : Int} (hz : r.top.items = l ++ [z]) :
  ∃ g cap, vt.2 = .slice (some ⟨g, 0, none⟩) (l.length + 1) cap ∧ l.length + 1 ≤ cap ∧ cap ≤ maxLen ∧ B ≤ g ∧ g < w.heap.size := by
 have ho := (lvs_snoc h.P.ls).2.b
 rw [hz] at ho
 rcases ho.2 with ⟨_, h0⟩ | ⟨g, cap, cur, e, hB, hg, hn, hc, _⟩
 ·simp at h0
 ·exact ⟨g, cap, by simpa using e, by simpa using hn, hc, hB, (Array.getElem?_eq_some_iff.1 hg).1⟩
theorem EM.itemCell (h : EM B b mb mo s r vl vL vo vt w) {l : List Int} {z : Int} (hz : r.top.items = l ++ [z]) {g cap : Nat} (hv : vt.2 = .slice (some ⟨g, 0, none⟩) (l.length + 1) cap) :
  w.cell? ⟨g, l.length, none⟩ = some (.int .i64 z) ∧ w.frozen? ⟨g, l.length, none⟩ = false := by
 have ho := (lvs_snoc h.P.ls).2.b
 rw [hz, hv] at ho
 rw [show (l ++ [z]).length = l.length + 1 by simp] at ho
 refine ⟨?_, ho.frozenAt _⟩
 rw [ho.cellAt _ (by omega)]
 simp [ilist]
theorem EM.lastItem (h : EM B b mb mo s r vl vL vo vt w) {l : List Int} {z : Int} (hz : r.top.items = l ++ [z]) {g cap : Nat} (hv : vt.2 = .slice (some ⟨g, 0, none⟩) (l.length + 1) cap) (i : Int) :
  EM B b mb mo s { r with top := { r.top with items := l ++ [i] } } vl vL vo vt (w.setCell ⟨g, l.length, none⟩ (.int .i64 i)) := by
 obtain ⟨hls, htl⟩ := lvs_snoc h.P.ls
 obtain ⟨a1, a2, a3⟩ := ap_parts h.P.ap
 have hll := lvs_len hls
 obtain ⟨gL, capL, hL, hgB, _, _, hgl, _⟩ := h.P.top
 have hLb : vL.ownBlock = some gL := by rw [hL]; rfl
 have hvb : vt.2.ownBlock = some g := by rw [hv]; rfl
 have ho := htl.b
 rw [hz, show (l ++ [z]).length = l.length + 1 by simp, hv] at ho
 have st := ho.stored l.length (.int .i64 i)
 have hset : (ilist (l ++ [z])).set l.length (.int .i64 i) = ilist (l ++ [i]) := by
  unfold ilist
  rw [List.map_append, List.map_append, List.set_append_right _ _ (by simp)]
  simp
 rw [hset] at st
 have hw := h.P.lw
 refine EM.lev h (gL := gL) (vX := vt.2) (.inr rfl) hLb (fun k o hk h1 h2 => ?_) ?_ ⟨?_, ?_⟩ h.P.ap
 ·rw [Below.heap_setCell _ _ _ _ (fun e => h2 (by rw [hvb]; exact congrArg some e.symm))]; exact hk
 ·have e1 : (r.lo ++ [({ r.top with items := l ++ [i] } : EL)]).length = (r.lo ++ [r.top]).length := by simp
  have e2 : lrow4 (r.lo ++ [({ r.top with items := l ++ [i] } : EL)]) (vo ++ [vt]) = lrow4 (r.lo ++ [r.top]) (vo ++ [vt]) := by
   rw [lrow4_app _ _ _ _ hll, lrow4_app _ _ _ _ hll]; rfl
  rw [e1, e2]
  have := own_ty (U := 3) hw htl.b (by decide)
  rw [hvb] at this
  exact hw.kept st.2 this
 ·exact htl.a.kept st.2 (by unfold apart at a3; rw [hvb] at a3; exact a3)
 ·rw [hv, show (l ++ [i]).length = l.length + 1 by simp]
  exact st.1
theorem etimes_c (n : Nat) (mn mx : Int) (w : World) (h : EM B b mb mo s r vl vL vo vt w) (hp : r.p + n ≤ s.length) (hi : r.ia = true → r.top.items ≠ []) (hni : r.top.items.length ≤ 200000) :
  Calls Tryz.prog 97 #[.pointer (some ⟨b, 0, none⟩), .int .i64 (n : Int), .int .i64 mn, .int .i64 mx] w (SOut B b mb mo s (timesE r n mn mx) w) := by
 have HBw := Lib.hid h.Bw
 have d1 : w.cell? ⟨b, 1, none⟩ = some (.int .i64 (r.p : Int)) := (h.cell 1).trans rfl
 have f1 := h.fz 1
 have d5 : w.cell? ⟨b, 5, none⟩ = some (.bool r.ia) := (h.cell 5).trans rfl
 have f5 := h.fz 5
 cases hia : r.ia with
 | false =>
  have hE : timesE r n mn mx = .error 43 := by unfold timesE; rw [hia]; rfl
  rw [hE]
  rw [hia] at d5
  clear h hE hia hp hi
  go_enter Tryz.func97, Tryz.ntmps97
  go_wp2
  go_ret
  exact ⟨Below.refl _ _, rfl⟩
 | true =>
  have hlen := h.len
  have hsm := h.small
  have hge := h.ge
  have hltb := h.lt
  have ew : IntKind.i64.wrap ((r.p : Int) + (n : Int)) = (r.p : Int) + (n : Int) := by simp [IntKind.wrap, IntKind.signed, IntKind.bits]; omega
  obtain ⟨l, z, hz⟩ : ∃ l z, r.top.items = l ++ [z] := by
   rcases List.eq_nil_or_concat r.top.items with e | ⟨l, z, e⟩
   ·exact absurd e (hi hia)
   ·exact ⟨l, z, by rw [e, List.concat_eq_append]⟩
  have hE : timesE r n mn mx = .ok { r.put ⟨6, 0, 0, 0, 0, z, 0, mn, mx, 0⟩ with p := r.p + n, ia := false, top := { r.top with items := l ++ [(r.put ⟨6, 0, 0, 0, 0, z, 0, mn, mx, 0⟩).idx] } } := by
   unfold timesE
   rw [hia, hz]
   simp
  rw [hE]
  rw [hia] at d5
  obtain ⟨gL, capL, hL, hgB, _, _, hgl, _⟩ := h.P.top
  have hE3 := EM.at2 h (r.p + n) false hp
  obtain ⟨w3, hw3⟩ : ∃ w3, w3 = (w.setCell ⟨b, 1, none⟩ (.int .i64 ((r.p + n : Nat) : Int))).setCell ⟨b, 5, none⟩ (.bool false) := ⟨_, rfl⟩
  rw [← hw3] at hE3
  have hbB : Below B w w3 := by rw [hw3]; exact ((Below.refl B w).setCell (p := ⟨b, 1, none⟩) hge _).setCell (p := ⟨b, 5, none⟩) hge _
  have HTOP := Lib.hid (etop_c w3 hE3 hL)
  have HE3 := Lib.hid hE3
  have HBB := Lib.hid hbB
  have hcast : ((r.p + n : Nat) : Int) = (r.p : Int) + (n : Int) := by omega
  rw [hcast] at hw3
  have HZ := Lib.hid hz
  have HLL := Lib.hid hL
  have hll : l.length ≤ 200000 := by rw [hz] at hni; simp at hni; omega
  clear h hE hia hp hi hE3 hbB hz hL hni
  go_enter Tryz.func97, Tryz.ntmps97
  go_wp2_with fail
  rw [← hw3]
  refine HTOP.out.mono ?_
  rintro e w4 ⟨rfl, nq, rfl⟩
  clear hw3 d1 d5 f1 f5 ew hcast
  obtain ⟨W, hW⟩ : ∃ W, W = w3.drewN nq := ⟨_, rfl⟩
  have bW : Below w3.heap.size w3 W := by rw [hW]; exact Go.below_drewN (Below.refl _ _) nq
  rw [← hW]
  clear hW
  have hEW := HE3.out.below bW
  obtain ⟨v1, v2⟩ := vt
  obtain ⟨gi, capi, hv2, hci, hcm, hgiB, hgil⟩ := hEW.itemsAt HZ.out
  simp only at hv2
  subst hv2
  have c0 := hEW.itemCell HZ.out rfl
  have t3 : W.cell? ⟨gL, r.lo.length * 4 + 3, none⟩ = some (.slice (some ⟨gi, 0, none⟩) (l.length + 1) capi) := by
   obtain ⟨g', c', e, _, hcell, _⟩ := hEW.P.top
   rw [HLL.out] at e
   cases e
   exact hcell 3 _ rfl
  have HPUT := Lib.hid (eput_c ⟨6, 0, 0, 0, 0, z, 0, mn, mx, 0⟩ W hEW)
  obtain ⟨m, hm⟩ : ∃ m, m = l.length := ⟨_, rfl⟩
  have HM := Lib.hid hm
  rw [← hm] at t3 c0 hll hci
  obtain ⟨c0, _⟩ := c0
  have ew : IntKind.i64.wrap ((m : Int) + 1 - 1) = (m : Int) := by simp [IntKind.wrap, IntKind.signed, IntKind.bits]; omega
  have hbc0 : (0 : Int) ≤ (m : Int) ∧ (m : Int) < (m : Int) + 1 := by omega
  clear hEW hm
  go_wp2_with fail
  refine HPUT.out.mono ?_
  rintro e w5 ⟨rfl, vl5, hE5, hk5⟩
  have c5 := hE5.itemCell (l := l) (z := z) HZ.out rfl
  have hX := hE5.lastItem (l := l) (z := z) HZ.out rfl (ES.put { r with p := r.p + n, ia := false } ⟨6, 0, 0, 0, 0, z, 0, mn, mx, 0⟩).idx
  have hB5 : Below B w (w5.setCell ⟨gi, l.length, none⟩ (.int .i64 (ES.put { r with p := r.p + n, ia := false } ⟨6, 0, 0, 0, 0, z, 0, mn, mx, 0⟩).idx)) :=
   ((HBB.out.trans (bW.mono (by have := HBB.out.size; have := HBw.out; omega))).trans hk5.bel).setCell (p := ⟨gi, l.length, none⟩) hgiB _
  rw [← HM.out] at hX hB5 c5
  obtain ⟨c5, f5⟩ := c5
  have HX := Lib.hid hX
  have HB := Lib.hid hB5
  clear hX hB5 hE5 hk5 c0 t3 bW HPUT HBB HE3
  go_wp2
  go_ret
  exact ⟨HB.out, rfl, vl5, vL, vo, _, HX.out⟩
theorem estar_c (w : World) (h : EM B b mb mo s r vl vL vo vt w) (hp : r.p + 1 ≤ s.length) (hi : r.ia = true → r.top.items ≠ []) (hni : r.top.items.length ≤ 200000) :
  Calls Tryz.prog 64 #[.pointer (some ⟨b, 0, none⟩)] w (SOut B b mb mo s (timesE r 1 0 (-1)) w) := by
 have HT := Lib.hid (etimes_c 1 0 (-1) w h hp hi hni)
 clear h
 go_enter Tryz.func64, Tryz.ntmps64
 go_wp2_with fail
 refine HT.out.mono ?_
 intro e w1 hO
 have HO := Lib.hid hO
 unfold SOut at hO
 split at hO
 ·obtain ⟨_, rfl, _⟩ := hO
  go_wp2
  go_ret
  exact HO.out
 ·obtain ⟨_, rfl⟩ := hO
  go_wp2
  go_ret
  exact HO.out
theorem eplus_c (w : World) (h : EM B b mb mo s r vl vL vo vt w) (hp : r.p + 1 ≤ s.length) (hi : r.ia = true → r.top.items ≠ []) (hni : r.top.items.length ≤ 200000) :
  Calls Tryz.prog 65 #[.pointer (some ⟨b, 0, none⟩)] w (SOut B b mb mo s (timesE r 1 1 (-1)) w) := by
 have HT := Lib.hid (etimes_c 1 1 (-1) w h hp hi hni)
 clear h
 go_enter Tryz.func65, Tryz.ntmps65
 go_wp2_with fail
 refine HT.out.mono ?_
 intro e w1 hO
 have HO := Lib.hid hO
 unfold SOut at hO
 split at hO
 ·obtain ⟨_, rfl, _⟩ := hO
  go_wp2
  go_ret
  exact HO.out
 ·obtain ⟨_, rfl⟩ := hO
  go_wp2
  go_ret
  exact HO.out
theorem emark_c (w : World) (h : EM B b mb mo s r vl vL vo vt w) (hp : r.p + 1 ≤ s.length) (hi : r.ia = true → r.top.items ≠ []) (hni : r.top.items.length ≤ 200000) :
  Calls Tryz.prog 66 #[.pointer (some ⟨b, 0, none⟩)] w (SOut B b mb mo s (timesE r 1 0 1) w) := by
 have HT := Lib.hid (etimes_c 1 0 1 w h hp hi hni)
 clear h
 go_enter Tryz.func66, Tryz.ntmps66
 go_wp2_with fail
 refine HT.out.mono ?_
 intro e w1 hO
 have HO := Lib.hid hO
 unfold SOut at hO
 split at hO
 ·obtain ⟨_, rfl, _⟩ := hO
  go_wp2
  go_ret
  exact HO.out
 ·obtain ⟨_, rfl⟩ := hO
  go_wp2
  go_ret
  exact HO.out
end
end Go.Proofs.YtdjcgjkbecncaaaGreatDoor
