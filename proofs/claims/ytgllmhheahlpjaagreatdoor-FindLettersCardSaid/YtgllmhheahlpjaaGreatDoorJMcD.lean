/- A trial, and perhaps its loose one: what their functions ask and answer. -/
import Derived.Test.YtgllmhheahlpjaaGreatDoorJMbW
set_option linter.unusedVariables false
set_option linter.unusedSimpArgs false
set_option maxRecDepth 100000
set_option maxHeartbeats 40000000
namespace Go.Proofs.YtgllmhheahlpjaaGreatDoor
open Go.RowKit Go.Maps Go.WideMaps
theorem Keeps.trans2 {S S' : Nat → Prop} {a b c : World} (h : Keeps S a b) (k : Keeps S' b c) (hs : ∀ i, i < a.heap.size → S' i → S i) : Keeps S a c :=
 ⟨k.os.trans h.os, k.tape.trans h.tape, k.output.trans h.output, Nat.le_trans h.size k.size, fun i hi q => (k.block i (Nat.lt_of_lt_of_le hi h.size) (fun r => q (hs i hi r))).trans (h.block i hi q)⟩
section
variable (X : Nat) (v : TrV) (s : List UInt8) (xs : List Nd) (B : Nat) (c1 : Lit → Nat) (n1 : Nat) (P1 : Lit → Prop) (c2 : Lit → Nat) (n2 : Nat)
structure JX (M2 : Nat → Prop) (J : (Nat → Prop) → List Lit → World → Prop) : Prop where
 iv : ∀ {E es w}, J E es w → Iv X v s xs B c1 n1 P1 c2 n2 (fun b => E b ∨ M2 b) es w
 mono : ∀ {E E' es w}, J E es w → (∀ b, E' b → E b) → J E' es w
 fresh : ∀ {E es w}, J E es w → J (fun b => E b ∨ w.heap.size ≤ b) es w
 keeps : ∀ {E es w w'}, J E es w → Keeps E w w' → J E es w'
 own : ∀ {E es fs w w'}, J E es w → Iv X v s xs B c1 n1 P1 c2 n2 (fun b => E b ∨ M2 b) fs w' → Keeps (Mt v) w w' → J E fs w'
 lt : ∀ {E es w}, J E es w → ∀ b, M2 b → b < w.heap.size ∧ ∀ n f, ¬ PRow w b (n + 1) f
def CntOk (t : T) (c : Nat) : Prop := match t with
 | .times m M _ => if M = -1 then (c : Int) ≤ m else (c : Int) ≤ M
 | _ => True
section
variable (M2 : Nat → Prop) (J : (Nat → Prop) → List Lit → World → Prop)
def EndsC (n : Nat) (t : T) (p : Nat) : Prop := ∀ (c : Nat) (had : Cp) (E : Nat → Prop) (es : List Lit) (w : World), c ≤ B → CntOk t c → CapOk s.length had → J E es w → (∀ b, E b → b < w.heap.size) →
 Calls Tryz.prog 119 #[.pointer (some ⟨X, 0, none⟩), .int .i64 n, .int .i64 p, .int .i64 c, capV had] w fun e w' => ∃ (b : Nat) (fs : List Lit), e = .returned (PV (s.length / 64 + 1) b) ∧ PRow w' b (s.length / 64 + 1) (fun j => (semT s t).ends p c had j) ∧ ¬ E b ∧ b ≠ 0 ∧ ¬ M2 b ∧ ¬ Mt v b ∧ es <+: fs ∧ J E fs w' ∧ Keeps (fun b => Mt v b ∨ M2 b) w w'
def FillC (fn : Nat) (n : Nat) (t : T) (p : Nat) : Prop := ∀ (c : Nat) (had : Cp) (E : Nat → Prop) (es : List Lit) (w : World) (fb : Nat) (f : Nat → Bool), c ≤ B → CntOk t c → CapOk s.length had → J E es w → (∀ b, E b → b < w.heap.size) → E fb → PRow w fb (s.length / 64 + 1) f →
 Calls Tryz.prog fn #[.pointer (some ⟨X, 0, none⟩), PV (s.length / 64 + 1) fb, .int .i64 n, .int .i64 p, .int .i64 c, capV had] w fun e w' => ∃ fs : List Lit, e = .returned (.tuple #[]) ∧ PRow w' fb (s.length / 64 + 1) (fun j => f j || (semT s t).ends p c had j) ∧ es <+: fs ∧ J E fs w' ∧ Keeps (fun b => (Mt v b ∨ M2 b) ∨ b = fb) w w'
end
end
section
variable {X : Nat} {v : TrV} {s : List UInt8} {xs : List Nd} {B : Nat} {c1 : Lit → Nat} {n1 : Nat} {P1 : Lit → Prop} {c2 : Lit → Nat} {n2 : Nat} {M2 : Nat → Prop} {J : (Nat → Prop) → List Lit → World → Prop}
theorem ends_run (jx : JX X v s xs B c1 n1 P1 c2 n2 M2 J) (fx : Fx v s xs B P1) (n p : Nat) (t : T) (hn : n < v.n) (hp : p ≤ s.length) (ht : Sub (fun i => xs[i]?) t n) (hir : isRunT t = true) (hR : FillC X v s B M2 J 138 n t p) : EndsC X v s B M2 J n t p := by
 intro c had E es w hcB hcnt hcap hJ hE
 have hsl := fx.sl
 have iv := jx.iv hJ
 have hk1 : ∀ S, Keeps S w (w.alloc (.cells (cH had) 27)) := fun S => (Keeps.refl S w).alloc _
 have iv1 := iv.keeps (hk1 _)
 have hrun := isrun_c X n v s xs t ht fx.len fx.n2 (w.alloc (.cells (cH had) 27)) iv1.tr iv1.nodes
 rw [hir] at hrun
 have HRUN := Lib.hid hrun
 have HB := capBlk w had
 have HJ := Lib.hid hJ
 have HR := Lib.hid hR
 have HX := Lib.hid jx
 have HE := Lib.hid hE
 have HB := Lib.hid HB
 have HC := Lib.hid (And.intro hcB (And.intro hcnt hcap))
 have HIV := Lib.hid iv
 have lw := iv.lts.2.2.2.2.2.2
 clear hrun hJ hR iv iv1 hE jx hcnt hcap
 unfold capV
 go_enter Tryz.func119, Tryz.ntmps119
 go_wp2_with fail
 refine HRUN.out.mono ?_
 rintro e w2 ⟨rfl, hB2⟩
 have hk2 : ∀ S, Keeps S w w2 := fun S => (hk1 S).trans (Keeps.of_below hB2)
 have x1 := (HIV.out.keeps (hk2 _)).tr.c1
 have hb2 := HB.out.below hB2 HB.out.lt
 have HK2 := Lib.hid hk2
 have l2 := (hk2 (fun _ => False)).size
 clear hk1 hk2 hB2 HRUN
 go_wp2_with fail
 refine (newplaces_c s.length (by omega) _).mono ?_
 rintro e w3 ⟨rfl, hw3⟩
 have hb3 := hb2.alloc (.cells (pcs (fun _ => false) (s.length / 64 + 1)) 55)
 rw [← hw3] at hb3
 obtain ⟨k0, k1, k2, k3, k4, k5, k6, k7, k8, k9⟩ := capBlk.ten (w := w3) (b := w.heap.size) (had := had) hb3
 have hcall := HR.out c had (fun b => E b ∨ b = w2.heap.size) es w3 w2.heap.size (fun _ => false) HC.out.1 HC.out.2.1 HC.out.2.2
  (by rw [hw3]; exact HX.out.mono (HX.out.keeps (HX.out.fresh HJ.out) ((HK2.out _).alloc _)) (fun b hb => hb.imp id (fun e => by have := (HK2.out (fun _ => False)).size; omega)))
  (fun b hb => by
   rw [hw3, World.size_alloc]
   rcases hb with hb | rfl
   ·have := HE.out b hb
    have := (HK2.out (fun _ => False)).size
    omega
   ·omega) (.inr rfl) (by rw [hw3]; exact PRow.new _ _ _)
 unfold PV capV at hcall
 have HCALL := Lib.hid hcall
 have HW3 := Lib.hid hw3
 clear hcall hw3 x1 hb2 hb3
 go_wp2_with fail
 refine HCALL.out.mono ?_
 rintro e w4 ⟨fs, rfl, hrow, hpre, hJ4, hk4⟩
 have l3 : w3.heap.size = w2.heap.size + 1 := by rw [HW3.out, World.size_alloc]
 go_wp2
 go_ret
 refine ⟨w2.heap.size, fs, rfl, by simpa using hrow, fun e => ?_, by omega, fun e => ?_, fun e => ?_, hpre, HX.out.mono hJ4 (fun b hb => .inl hb), ?_⟩
 ·have := HE.out _ e; omega
 ·have := (HX.out.lt HJ.out _ e).1; omega
 ·have l := HIV.out.lts
  rcases e with e | e | e <;> omega
 ·have hk3 : Keeps (fun b => Mt v b ∨ M2 b) w w3 := by rw [HW3.out]; exact (HK2.out _).alloc _
  exact hk3.trans2 hk4 (fun i hi e => e.elim id (fun e => by omega))
end
end Go.Proofs.YtgllmhheahlpjaaGreatDoor
namespace Go.Proofs.YtgllmhheahlpjaaGreatDoor
open Go.RowKit Go.Maps Go.WideMaps
theorem placesHu : Tryz.prog.underlying 99 = some (.map 142 82) := Tryz.underlying99
section
variable {X : Nat} {v : TrV} {s : List UInt8} {xs : List Nd} {B : Nat} {c1 : Lit → Nat} {n1 : Nat} {P1 : Lit → Prop} {c2 : Lit → Nat} {n2 : Nat} {M2 : Nat → Prop} {J : (Nat → Prop) → List Lit → World → Prop}
theorem ends_not (jx : JX X v s xs B c1 n1 P1 c2 n2 M2 J) (fx : Fx v s xs B P1) (n p : Nat) (t : T) (hn : n < v.n) (hp : p ≤ s.length) (ht : Sub (fun i => xs[i]?) t n) (hir : isRunT t = false) (hR : FillC X v s B M2 J 138 n t p) : EndsC X v s B M2 J n t p := by
 intro c had E es w hcB hcnt hcap hJ hE
 have hsl := fx.sl
 have hn2 := fx.n2
 have hB3 := fx.B3
 have iv := jx.iv hJ
 have hk1 : ∀ S, Keeps S w (w.alloc (.cells (cH had) 27)) := fun S => (Keeps.refl S w).alloc _
 have iv1 := iv.keeps (hk1 _)
 have hrun := isrun_c X n v s xs t ht fx.len fx.n2 (w.alloc (.cells (cH had) 27)) iv1.tr iv1.nodes
 rw [hir] at hrun
 have HRUN := Lib.hid hrun
 have HB := Lib.hid (capBlk w had)
 have HJ := Lib.hid hJ
 have HR := Lib.hid hR
 have HX := Lib.hid jx
 have HE := Lib.hid hE
 have HF := Lib.hid fx
 have HC := Lib.hid (And.intro hcB (And.intro hcnt hcap))
 have HIV := Lib.hid iv
 obtain ⟨lX, llb, lrb, lbn, lbr, lbl, lw⟩ := iv.lts
 have HM2 := Lib.hid (fun b hb => (jx.lt hJ b hb).1)
 have hmx := iv.nums.max
 have emx : maxLen = 9223372036854775807 := by decide
 rw [emx] at hmx
 clear hrun hJ hR iv iv1 hE jx hcnt fx emx
 unfold capV
 go_enter Tryz.func119, Tryz.ntmps119
 go_wp2_with fail
 refine HRUN.out.mono ?_
 rintro e w2 ⟨rfl, hB2⟩
 have hk2 : ∀ S, Keeps S w w2 := fun S => (hk1 S).trans (Keeps.of_below hB2)
 have hb2 := HB.out.below hB2 HB.out.lt
 have lsz2 : w.heap.size < w2.heap.size := by have := hb2.lt; omega
 have HK2 := Lib.hid hk2
 have iv2 := HIV.out.keeps (hk2 _)
 obtain ⟨k0, k1, k2, k3, k4, k5, k6, k7, k8, k9⟩ := capBlk.ten (w := w2) (b := w.heap.size) (had := had) hb2
 have hst := stateof_c HF.out n p c t had hn ht hcap w2 iv2 (fun b hb => by
  rcases hb with hb | hb
  ·have := HE.out b hb; omega
  ·have := HM2.out b hb; omega) iv2.out.2.2.2.1
 unfold capV at hst
 have HST := Lib.hid hst
 have HB2 := Lib.hid hb2
 clear hk1 hk2 hB2 HRUN hst iv2 hb2
 go_wp2_with fail
 refine HST.out.mono ?_
 rintro e w3 ⟨fs, q, rfl, hpre, hnof, hq, iv3, hk3⟩
 have lsz3 := hk3.size
 have hJ3 : J E fs w3 := HX.out.own (HX.out.keeps HJ.out (HK2.out _)) iv3 (hk3.mono (fun i _ e => .inl e))
 have hb3 := HB2.out.keeps hk3 (by omega)
 have HJ3 := Lib.hid hJ3
 have HK3 := Lib.hid hk3
 have HIV3 := Lib.hid iv3
 have HPRE := Lib.hid hpre
 have HB3 := Lib.hid hb3
 have HNOF := Lib.hid hnof
 -- the look
 have hkd : ∀ S, Keeps S w3 (w3.alloc (.cells #[.int .i64 n, .int .i64 p, .int .i64 c, .int .i64 q] 142)).drew := fun S => ((Keeps.refl S w3).alloc _).drew
 have iv4 := iv3.keeps (hkd _)
 obtain ⟨L, hL, hL2⟩ := iv4.reach
 have hkey := keyOf_state (a := n) (b := p) (c := c) (d := q) (nat_wf (by omega)) (nat_wf (by omega)) (nat_wf (by omega)) (nat_wf (by omega))
 obtain ⟨val, hlook, hval⟩ := hL.look_ok stateKeyed placesHu (z := .slice none 0 0) (by intro w; kernel_rfl) hkey
 have x4 := iv4.tr.c4
 have x1 := iv4.tr.c1
 have hfour := (Four.new w3 142 (.int .i64 n) (.int .i64 p) (.int .i64 c) (.int .i64 q)).drew
 have f0 := hfour.c0; have f1 := hfour.c1; have f2 := hfour.c2; have f3 := hfour.c3
 have HFOUR := Lib.hid hfour
 have HKD := Lib.hid hkd
 have HKEY := Lib.hid hkey
 have HL2 := Lib.hid (And.intro hL2 hval)
 have HIV4 := Lib.hid iv4
 clear hk3 hJ3 iv3 iv4 hb3 hpre hnof hL hL2 hval hfour hkd hkey HST k0 k1 k2 k3 k4 k5 k6 k7 k8 k9
 cases hLk : L (stK n p c q) with
 | some u =>
  rw [hLk] at hlook
  obtain ⟨b, t', had', rfl, hb1, hb0, hs', hc', hno', hrow⟩ := HL2.out.1 n p c q u ⟨hn, hp, hcB, hq⟩ hLk
  obtain rfl := HL2.out.2 _ hLk
  obtain rfl := sub_uniq t' t n hs' ht
  have hend := (HF.out.ok n t' hn ht).2.1.ask p c had had' hcap hc' hp (nOf_same (HF.out.ok n t' hn ht).2.1 hcap hc' (by omega) HNOF.out hno')
  rw [← hend] at hrow
  have HROW := Lib.hid hrow
  unfold PV at hlook
  clear hrow hend hLk
  go_wp2_with fail
  go_region
  go_wp2
  go_ret
  obtain ⟨L6, h6, _⟩ := HIV4.out.reach
  obtain ⟨L7, h7, _⟩ := HIV4.out.left
  refine ⟨b, fs, rfl, HROW.out, fun e => hb1 (.inl e), hb0, fun e => hb1 (.inr e), fun e => ?_, HPRE.out, HX.out.keeps HJ3.out (HKD.out _), ?_⟩
  ·rcases e with e | e | e
   ·exact (HIV4.out.apart HF.out HIV4.out.nums).2.2.2.2 _ _ _ HROW.out e
   ·exact (HIV4.out.apart HF.out h6).2.2.2.2 _ _ _ HROW.out e
   ·exact (HIV4.out.apart HF.out h7).2.2.2.2 _ _ _ HROW.out e
  ·exact ((HK2.out _).trans (HK3.out.mono (fun i _ e => .inl (.inl e)))).trans (HKD.out _)
 | none =>
  rw [hLk] at hlook
  clear hLk
  have hnp := newplaces_c s.length (by omega) ((w3.alloc (.cells #[.int .i64 n, .int .i64 p, .int .i64 c, .int .i64 q] 142)).drew)
  have hz : ((w3.alloc (.cells #[.int .i64 n, .int .i64 p, .int .i64 c, .int .i64 q] 142)).drew).heap.size = w3.heap.size + 1 := by show (w3.alloc _).heap.size = _; rw [World.size_alloc]
  rw [hz] at hnp
  have HNP := Lib.hid hnp
  have hk35 : ∀ S, Keeps S w3 (((w3.alloc (.cells #[.int .i64 n, .int .i64 p, .int .i64 c, .int .i64 q] 142)).drew).alloc (.cells (pcs (fun _ => false) (s.length / 64 + 1)) 55)) := fun S => (HKD.out S).alloc _
  have hb5 := ((HB3.out.alloc (.cells #[.int .i64 n, .int .i64 p, .int .i64 c, .int .i64 q] 142)).drew).alloc (.cells (pcs (fun _ => false) (s.length / 64 + 1)) 55)
  have hf5 := HFOUR.out.alloc (.cells (pcs (fun _ => false) (s.length / 64 + 1)) 55)
  have hp5 := PRow.new ((w3.alloc (.cells #[.int .i64 n, .int .i64 p, .int .i64 c, .int .i64 q] 142)).drew) (s.length / 64 + 1) (fun _ => false)
  rw [hz] at hp5
  have HK35 := Lib.hid hk35
  have HB5 := Lib.hid hb5
  have HF5 := Lib.hid hf5
  have HP5 := Lib.hid hp5
  have hsz5 : (((w3.alloc (.cells #[.int .i64 n, .int .i64 p, .int .i64 c, .int .i64 q] 142)).drew).alloc (.cells (pcs (fun _ => false) (s.length / 64 + 1)) 55)).heap.size = w3.heap.size + 2 := by rw [World.size_alloc, hz]
  clear hnp hk35 hb5 hf5 hp5 hz
  go_wp2_with fail
  go_region
  go_wp2_with fail
  refine HNP.out.mono ?_
  rintro e w5 ⟨rfl, hw5⟩
  rw [← hw5] at hsz5
  have hb5 := HB5.out
  have hf5 := HF5.out
  have hp5 := HP5.out
  have hk35 := HK35.out
  rw [← hw5] at hb5 hf5 hp5
  rw [← hw5] at hk35
  obtain ⟨k0, k1, k2, k3, k4, k5, k6, k7, k8, k9⟩ := capBlk.ten (w := w5) (b := w.heap.size) (had := had) hb5
  have hcall := HR.out c had (fun b => E b ∨ b = w3.heap.size + 1) fs w5 (w3.heap.size + 1) (fun _ => false) HC.out.1 HC.out.2.1 HC.out.2.2
   (HX.out.mono (HX.out.keeps (HX.out.fresh HJ3.out) (hk35 _)) (fun b hb => hb.imp id (fun e => by omega)))
   (fun b hb => by
    rcases hb with hb | rfl
    ·have := HE.out b hb
     omega
    ·omega) (.inr rfl) hp5
  unfold PV capV at hcall
  have HCALL := Lib.hid hcall
  have HF5 := Lib.hid hf5
  have HK35 := Lib.hid hk35
  clear hcall hb5 hf5 hp5 hk35 x1 x4 hlook HNP HB5 HP5 hw5 f0 f1 f2 f3
  go_wp2_with fail
  refine HCALL.out.mono ?_
  rintro e w6 ⟨gs, rfl, hrow, hpre2, hJ6, hk6⟩
  clear HCALL k0 k1 k2 k3 k4 k5 k6 k7 k8 k9
  have iv6 := (HX.out.iv hJ6).mono (E' := fun b => E b ∨ M2 b) (fun b hb => hb.elim (fun e => .inl (.inl e)) .inr)
  have iv6d := iv6.keeps ((Keeps.refl _ w6).drew)
  obtain ⟨L6, hL6, hL62⟩ := iv6d.reach
  obtain ⟨w7, hup, hm7, hgr⟩ := hL6.update stateKeyed placesHu (val := .slice (some ⟨w3.heap.size + 1, 0, none⟩) (s.length / 64 + 1) (s.length / 64 + 1)) HKEY.out ⟨n, p, c, q, hn, hp, hcB, hq, rfl⟩
  have hk7 : Keeps (fun b => b = v.br) w6.drew w7 := (Keeps.refl _ _).grown hgr (fun k h => by cases h; rfl)
  have hrow6 : PRow w6 (w3.heap.size + 1) (s.length / 64 + 1) (fun j => (semT s t).ends p c had j) := by simpa using hrow
  have hrow7 := hrow6.drew.keeps hk7 (by omega)
  have hnE : ¬ (E (w3.heap.size + 1) ∨ M2 (w3.heap.size + 1)) := fun e => by
   rcases e with e | e
   ·have := HE.out _ e; omega
   ·have := HM2.out _ e; omega
  have iv7 := iv6d.upReach HF.out hL62 hk7 hm7 (fun l hl => if_neg hl) (fun u hu => by rw [if_pos rfl] at hu; exact (Option.some.inj hu).symm) ⟨hn, hp, hcB, hq⟩ hnE (by omega) ht HC.out.2.2 (nOf_pre hpre2 HNOF.out) hrow7
  have hJ7 : J E gs w7 := HX.out.own (HX.out.mono (HX.out.keeps hJ6 (Keeps.refl _ w6).drew) (fun b hb => .inl hb)) iv7 (hk7.mono (fun i _ e => .inr (.inl e)))
  have hf6 : Four w6 w3.heap.size 142 (.int .i64 n) (.int .i64 p) (.int .i64 c) (.int .i64 q) := ⟨(hk6.block _ HF5.out.lt (fun e => by
   rcases e with (e | e) | e
   ·rcases e with e | e | e <;> omega
   ·have := HM2.out _ e; omega
   ·omega)).trans HF5.out.heap⟩
  have x46 := iv6.tr.c4
  have f0 := hf6.c0; have f1 := hf6.c1; have f2 := hf6.c2; have f3 := hf6.c3
  have HEND := Lib.hid (And.intro hrow7 (And.intro hJ7 (And.intro hk6 hk7)))
  have HPRE2 := Lib.hid hpre2
  have HNE := Lib.hid hnE
  clear iv6 iv6d hL6 hL62 hm7 hgr hk7 hrow6 hrow7 iv7 hJ7 hf6 hrow hk6 hpre2 hJ6 hnE
  go_wp2_with fail
  go_region
  go_wp2
  go_ret
  refine ⟨w3.heap.size + 1, gs, rfl, HEND.out.1, fun e => HNE.out (.inl e), by omega, fun e => HNE.out (.inr e), fun e => ?_, HPRE.out.trans HPRE2.out, HEND.out.2.1, ?_⟩
  ·rcases e with e | e | e <;> omega
  ·have h3 : Keeps (fun b => Mt v b ∨ M2 b) w w3 := (HK2.out _).trans (HK3.out.mono (fun i _ e => .inl (.inl e)))
   exact (((h3.trans (HK35.out _)).trans2 HEND.out.2.2.1 (fun i hi e => e.elim id (fun e => by omega))).drew).trans (HEND.out.2.2.2.mono (fun i _ e => .inl (.inr (.inl e))))
end
end Go.Proofs.YtgllmhheahlpjaaGreatDoor
namespace Go.Proofs.YtgllmhheahlpjaaGreatDoor
open Go.RowKit Go.Maps Go.WideMaps
section
variable {X : Nat} {v : TrV} {s : List UInt8} {xs : List Nd} {B : Nat} {c1 : Lit → Nat} {n1 : Nat} {P1 : Lit → Prop} {c2 : Lit → Nat} {n2 : Nat} {M2 : Nat → Prop} {J : (Nat → Prop) → List Lit → World → Prop}
theorem ends_any (jx : JX X v s xs B c1 n1 P1 c2 n2 M2 J) (fx : Fx v s xs B P1) (n p : Nat) (t : T) (hn : n < v.n) (hp : p ≤ s.length) (ht : Sub (fun i => xs[i]?) t n) (hR : FillC X v s B M2 J 138 n t p) : EndsC X v s B M2 J n t p := by
 cases h : isRunT t with
 | true => exact ends_run jx fx n p t hn hp ht h hR
 | false => exact ends_not jx fx n p t hn hp ht h hR
theorem add_run (jx : JX X v s xs B c1 n1 P1 c2 n2 M2 J) (fx : Fx v s xs B P1) (n p : Nat) (t : T) (hn : n < v.n) (hp : p ≤ s.length) (ht : Sub (fun i => xs[i]?) t n) (hir : isRunT t = true) (hR : FillC X v s B M2 J 138 n t p) : FillC X v s B M2 J 120 n t p := by
 intro c had E es w fb f hcB hcnt hcap hJ hE hfb hrow
 have hsl := fx.sl
 have iv := jx.iv hJ
 have hk1 : ∀ S, Keeps S w (w.alloc (.cells (cH had) 27)) := fun S => (Keeps.refl S w).alloc _
 have iv1 := iv.keeps (hk1 _)
 have hrun := isrun_c X n v s xs t ht fx.len fx.n2 (w.alloc (.cells (cH had) 27)) iv1.tr iv1.nodes
 rw [hir] at hrun
 have HRUN := Lib.hid hrun
 have HB := Lib.hid (capBlk w had)
 have HJ := Lib.hid hJ
 have HR := Lib.hid hR
 have HX := Lib.hid jx
 have HE := Lib.hid hE
 have HROW := Lib.hid hrow
 have HC := Lib.hid (And.intro hcB (And.intro hcnt hcap))
 have lfb := hrow.lt
 have hnM : ¬ Mt v fb ∧ ¬ M2 fb := ⟨fun e => by
  obtain ⟨o1, o2, o3, o4, o5, o6, o7⟩ := iv.out
  rcases e with e | e | e
  ·subst e; exact o4 (.inl hfb)
  ·subst e; exact o5 (.inl hfb)
  ·subst e; exact o6 (.inl hfb), fun e => (jx.lt hJ fb e).2 _ _ hrow⟩
 have HNM := Lib.hid hnM
 clear hrun hJ hR iv iv1 hE jx hcnt hcap hrow hnM
 unfold capV PV
 go_enter Tryz.func120, Tryz.ntmps120
 go_wp2_with fail
 refine HRUN.out.mono ?_
 rintro e w2 ⟨rfl, hB2⟩
 have hk2 : ∀ S, Keeps S w w2 := fun S => (hk1 S).trans (Keeps.of_below hB2)
 have hb2 := HB.out.below hB2 HB.out.lt
 have l2 := (hk2 (fun _ => False)).size
 have hrow2 := HROW.out.keeps (hk2 (fun _ => False)) id
 obtain ⟨k0, k1, k2, k3, k4, k5, k6, k7, k8, k9⟩ := capBlk.ten (w := w2) (b := w.heap.size) (had := had) hb2
 have hcall := HR.out c had E es w2 fb f HC.out.1 HC.out.2.1 HC.out.2.2 (HX.out.keeps HJ.out (hk2 _)) (fun b hb => by have := HE.out b hb; omega) hfb hrow2
 unfold PV capV at hcall
 have HCALL := Lib.hid hcall
 have HK2 := Lib.hid hk2
 clear hcall hk1 hk2 hB2 HRUN hb2 hrow2
 go_wp2_with fail
 refine HCALL.out.mono ?_
 rintro e w3 ⟨fs, rfl, hrow3, hpre, hJ3, hk3⟩
 go_wp2
 first | go_end0 | refine bodyPost_ret (results_none rfl _ _ _) rfl ?_
 exact ⟨fs, rfl, hrow3, hpre, hJ3, (HK2.out _).trans hk3⟩
theorem add_not (jx : JX X v s xs B c1 n1 P1 c2 n2 M2 J) (fx : Fx v s xs B P1) (n p : Nat) (t : T) (hn : n < v.n) (hp : p ≤ s.length) (ht : Sub (fun i => xs[i]?) t n) (hir : isRunT t = false) (hR : EndsC X v s B M2 J n t p) : FillC X v s B M2 J 120 n t p := by
 intro c had E es w fb f hcB hcnt hcap hJ hE hfb hrow
 have hsl := fx.sl
 have iv := jx.iv hJ
 have hk1 : ∀ S, Keeps S w (w.alloc (.cells (cH had) 27)) := fun S => (Keeps.refl S w).alloc _
 have iv1 := iv.keeps (hk1 _)
 have hrun := isrun_c X n v s xs t ht fx.len fx.n2 (w.alloc (.cells (cH had) 27)) iv1.tr iv1.nodes
 rw [hir] at hrun
 have HRUN := Lib.hid hrun
 have HB := Lib.hid (capBlk w had)
 have HJ := Lib.hid hJ
 have HR := Lib.hid hR
 have HX := Lib.hid jx
 have HE := Lib.hid hE
 have HROW := Lib.hid hrow
 have HC := Lib.hid (And.intro hcB (And.intro hcnt hcap))
 have lfb := hrow.lt
 have hnM : ¬ Mt v fb ∧ ¬ M2 fb := ⟨fun e => by
  obtain ⟨o1, o2, o3, o4, o5, o6, o7⟩ := iv.out
  rcases e with e | e | e
  ·subst e; exact o4 (.inl hfb)
  ·subst e; exact o5 (.inl hfb)
  ·subst e; exact o6 (.inl hfb), fun e => (jx.lt hJ fb e).2 _ _ hrow⟩
 have HNM := Lib.hid hnM
 clear hrun hJ hR iv iv1 hE jx hcnt hcap hrow hnM
 unfold capV PV
 go_enter Tryz.func120, Tryz.ntmps120
 go_wp2_with fail
 refine HRUN.out.mono ?_
 rintro e w2 ⟨rfl, hB2⟩
 have hk2 : ∀ S, Keeps S w w2 := fun S => (hk1 S).trans (Keeps.of_below hB2)
 have hb2 := HB.out.below hB2 HB.out.lt
 have l2 := (hk2 (fun _ => False)).size
 have hrow2 := HROW.out.keeps (hk2 (fun _ => False)) id
 obtain ⟨k0, k1, k2, k3, k4, k5, k6, k7, k8, k9⟩ := capBlk.ten (w := w2) (b := w.heap.size) (had := had) hb2
 have hcall := HR.out c had E es w2 HC.out.1 HC.out.2.1 HC.out.2.2 (HX.out.keeps HJ.out (hk2 _)) (fun b hb => by have := HE.out b hb; omega)
 unfold PV capV at hcall
 have HCALL := Lib.hid hcall
 have HK2 := Lib.hid hk2
 have HROW2 := Lib.hid hrow2
 clear hcall hk1 hk2 hB2 HRUN hb2 hrow2
 go_wp2_with fail
 refine HCALL.out.mono ?_
 rintro e w3 ⟨b, fs, rfl, hrow3, hbE, hb0, hbM2, hbM, hpre, hJ3, hk3⟩
 have hrowf := HROW2.out.keeps hk3 (fun e => e.elim HNM.out.1 HNM.out.2)
 have hjoin := join_m fb (s.length / 64 + 1) b (s.length / 64 + 1) (s.length / 64 + 1) f _ (by omega) (fun e => hbE (e ▸ hfb)) w3 hrowf hrow3
 have HJOIN := Lib.hid hjoin
 have HALL := Lib.hid (And.intro hpre (And.intro hJ3 hk3))
 clear hjoin hpre hJ3 hk3 hrow3 hrowf
 go_wp2_with fail
 refine HJOIN.out.mono ?_
 rintro e w4 ⟨rfl, hrow4, hk4⟩
 go_wp2
 first | go_end0 | refine bodyPost_ret (results_none rfl _ _ _) rfl ?_
 exact ⟨fs, rfl, hrow4, HALL.out.1, HX.out.keeps HALL.out.2.1 (hk4.mono (fun i _ e => e ▸ hfb)), (((HK2.out _).trans (HALL.out.2.2.mono (fun i _ e => .inl e))).trans (hk4.mono (fun i _ e => .inr e)))⟩
theorem add_c (jx : JX X v s xs B c1 n1 P1 c2 n2 M2 J) (fx : Fx v s xs B P1) (n p : Nat) (t : T) (hn : n < v.n) (hp : p ≤ s.length) (ht : Sub (fun i => xs[i]?) t n) (hR : FillC X v s B M2 J 138 n t p) : FillC X v s B M2 J 120 n t p := by
 cases h : isRunT t with
 | true => exact add_run jx fx n p t hn hp ht h hR
 | false => exact add_not jx fx n p t hn hp ht h (ends_any jx fx n p t hn hp ht hR)
end
end Go.Proofs.YtgllmhheahlpjaaGreatDoor
namespace Go.Proofs.YtgllmhheahlpjaaGreatDoor
open Go.RowKit Go.Maps Go.WideMaps
section
variable (X : Nat) (v : TrV) (s : List UInt8) (B : Nat) (M2 : Nat → Prop) (J : (Nat → Prop) → List Lit → World → Prop)
def LeftC (K : FuncId) (cap : Array Value) (k : Nat) (had : Cp) (E : Nat → Prop) (es : List Lit) (w : World) : Prop :=
 (∀ w, (callFunc K (#[.int .i64 k] ++ cap)).run Tryz.prog w = .ok (.enter K (#[.int .i64 k] ++ cap)) w) ∧
 ∀ (fs : List Lit) (w' : World), es <+: fs → J E fs w' → Keeps (fun b => (Mt v b ∨ M2 b) ∨ E b) w w' → Calls Tryz.prog K (#[.int .i64 k] ++ cap) w' fun e w'' => ∃ gs : List Lit, e = .returned (capV had) ∧ fs <+: gs ∧ J E gs w'' ∧ Keeps (fun b => Mt v b ∨ M2 b) w' w''
def GoC (n : Nat) (t : T) (k : Nat) : Prop := ∀ (c : Nat) (had : Cp) (E : Nat → Prop) (es : List Lit) (w : World) (fb : Nat) (f : Nat → Bool) (K : FuncId) (cap : Array Value), c ≤ B → CntOk t c → CapOk s.length had → J E es w → (∀ b, E b → b < w.heap.size) → E fb → PRow w fb (s.length / 64 + 1) f → LeftC v M2 J K cap k had E es w →
 Calls Tryz.prog 80 #[.pointer (some ⟨X, 0, none⟩), PV (s.length / 64 + 1) fb, .int .i64 n, .int .i64 k, .int .i64 c, .func (.func K) #[] cap] w fun e w' => ∃ fs : List Lit, e = .returned (.tuple #[]) ∧ PRow w' fb (s.length / 64 + 1) (fun j => f j || (semT s t).ends k c had j) ∧ es <+: fs ∧ J E fs w' ∧ Keeps (fun b => (Mt v b ∨ M2 b) ∨ b = fb) w w'
end
section
variable {X : Nat} {v : TrV} {s : List UInt8} {xs : List Nd} {B : Nat} {c1 : Lit → Nat} {n1 : Nat} {P1 : Lit → Prop} {c2 : Lit → Nat} {n2 : Nat} {M2 : Nat → Prop} {J : (Nat → Prop) → List Lit → World → Prop}
theorem goon_none (jx : JX X v s xs B c1 n1 P1 c2 n2 M2 J) (fx : Fx v s xs B P1) (hlp : v.lp = none) (n k : Nat) (t : T) (hn : n < v.n) (hk : k ≤ s.length) (hA : FillC X v s B M2 J 120 n t k) : GoC X v s B M2 J n t k := by
 intro c had E es w fb f K cap hcB hcnt hcap hJ hE hfb hrow hL
 have iv := jx.iv hJ
 have x6 := iv.tr.c6
 rw [hlp] at x6
 have hnM : ¬ Mt v fb ∧ ¬ M2 fb := ⟨fun e => by
  obtain ⟨o1, o2, o3, o4, o5, o6, o7⟩ := iv.out
  rcases e with e | e | e
  ·subst e; exact o4 (.inl hfb)
  ·subst e; exact o5 (.inl hfb)
  ·subst e; exact o6 (.inl hfb), fun e => (jx.lt hJ fb e).2 _ _ hrow⟩
 have HNM := Lib.hid hnM
 have hen := hL.1 w.drew
 have hcall := hL.2 es w.drew (List.prefix_refl _) (jx.keeps hJ (Keeps.refl _ w).drew) (Keeps.refl _ w).drew
 have HCALL := Lib.hid hcall
 have HJ := Lib.hid hJ
 have HA := Lib.hid hA
 have HX := Lib.hid jx
 have HE := Lib.hid hE
 have HROW := Lib.hid hrow
 have HC := Lib.hid (And.intro hcB (And.intro hcnt hcap))
 clear hcall hJ hA jx hE hrow hcnt hcap iv hL hnM
 unfold PV
 go_enter Tryz.func80, Tryz.ntmps80
 go_wp2_with fail
 go_region
 go_wp2_with fail
 refine HCALL.out.mono ?_
 rintro e w2 ⟨gs, rfl, hpre, hJ2, hk2⟩
 have hsz := hk2.size
 have hcallA := HA.out c had E gs w2 fb f HC.out.1 HC.out.2.1 HC.out.2.2 hJ2 (fun b hb => Nat.lt_of_lt_of_le (HE.out b hb) hsz) hfb (HROW.out.drew.keeps hk2 (fun e => e.elim HNM.out.1 HNM.out.2))
 unfold PV capV at hcallA
 have HCA := Lib.hid hcallA
 have HALL := Lib.hid (And.intro hpre hk2)
 clear hcallA hpre hk2 hJ2 HCALL
 unfold capV
 go_wp2_with fail
 refine HCA.out.mono ?_
 rintro e w3 ⟨hs, rfl, hrow3, hpre3, hJ3, hk3⟩
 go_wp2
 first | go_end0 | refine bodyPost_ret (results_none rfl _ _ _) rfl ?_
 exact ⟨hs, rfl, hrow3, HALL.out.1.trans hpre3, hJ3, ((((Keeps.refl _ w).drew).trans HALL.out.2).mono (fun i _ e => .inl e)).trans hk3⟩
end
end Go.Proofs.YtgllmhheahlpjaaGreatDoor
namespace Go.Proofs.YtgllmhheahlpjaaGreatDoor
open Go.RowKit Go.Maps Go.WideMaps
theorem left1_c (b k : Nat) (had : Cp) (w : World) (h : Blk w b (cH had) 27) : Calls Tryz.prog 170 #[.int .i64 k, .pointer (some ⟨b, 0, none⟩)] w fun e w' => e = .returned (capV had) ∧ ∀ S, Keeps S w w' := by
 have hb := h.alloc (.cells cZ 27)
 obtain ⟨k0, k1, k2, k3, k4, k5, k6, k7, k8, k9⟩ := capBlk.ten (w := (w.alloc (.cells cZ 27))) (b := b) (had := had) hb
 have HB := Lib.hid h
 clear h hb
 unfold capV
 go_enter Tryz.func170, Tryz.ntmps170
 go_wp2
 refine bodyPost_ret (v := .agg (cH had)) (by simp [results, Tryz.results170, go_sem]) rfl ⟨rfl, fun S => (Keeps.refl S w).alloc _⟩
section
variable (X : Nat) (v : TrV) (s : List UInt8) (M2 : Nat → Prop) (J : (Nat → Prop) → List Lit → World → Prop)
def LeaveC (n : Nat) (t : T) (p j : Nat) : Prop := ∀ (had : Cp) (E : Nat → Prop) (es : List Lit) (w : World), CapOk s.length had → J E es w → (∀ b, E b → b < w.heap.size) →
 Calls Tryz.prog 72 #[.pointer (some ⟨X, 0, none⟩), .int .i64 n, .int .i64 p, .int .i64 j, capV had] w fun e w' => ∃ fs : List Lit, e = .returned (capV ((semT s t).leave p j had)) ∧ es <+: fs ∧ J E fs w' ∧ Keeps (fun b => Mt v b ∨ M2 b) w w'
end
section
variable {X : Nat} {v : TrV} {s : List UInt8} {xs : List Nd} {B : Nat} {c1 : Lit → Nat} {n1 : Nat} {P1 : Lit → Prop} {c2 : Lit → Nat} {n2 : Nat} {M2 : Nat → Prop} {J : (Nat → Prop) → List Lit → World → Prop}
theorem left2_c (jx : JX X v s xs B c1 n1 P1 c2 n2 M2 J) (a p k bx ba bp bh : Nat) (t : T) (had : Cp) (hL : LeaveC X v s M2 J a t p k) (hc : CapOk s.length had) (E : Nat → Prop) (es : List Lit) (w : World) (hJ : J E es w) (hE : ∀ b, E b → b < w.heap.size)
  (hx : Blk w bx #[.pointer (some ⟨X, 0, none⟩)] 68) (ha : Blk w ba #[.int .i64 a] 3) (hp : Blk w bp #[.int .i64 p] 3) (hh : Blk w bh (cH had) 27) :
  Calls Tryz.prog 171 #[.int .i64 k, .pointer (some ⟨bx, 0, none⟩), .pointer (some ⟨ba, 0, none⟩), .pointer (some ⟨bp, 0, none⟩), .pointer (some ⟨bh, 0, none⟩)] w fun e w' => ∃ gs : List Lit, e = .returned (capV ((semT s t).leave p k had)) ∧ es <+: gs ∧ J E gs w' ∧ Keeps (fun b => Mt v b ∨ M2 b) w w' := by
 have iv := jx.iv hJ
 have l := iv.lts
 have q1 := (hx.alloc (.cells cZ 27)).cell 0
 have q2 := (ha.alloc (.cells cZ 27)).cell 0
 have q3 := (hp.alloc (.cells cZ 27)).cell 0
 have hb := hh.alloc (.cells cZ 27)
 simp only [List.getElem?_toArray, List.getElem?_cons_zero] at q1 q2 q3
 obtain ⟨k0, k1, k2, k3, k4, k5, k6, k7, k8, k9⟩ := capBlk.ten (w := (w.alloc (.cells cZ 27))) (b := bh) (had := had) hb
 have hk1 : ∀ S, Keeps S w (w.alloc (.cells cZ 27)) := fun S => (Keeps.refl S w).alloc _
 have hr0 : VRow (w.alloc (.cells cZ 27)) w.heap.size 10 27 (fun _ => .complex .f64 0 0) := VRow.new w 10 27 (fun _ => .complex .f64 0 0)
 have hcall := hL had (fun b => E b ∨ b = w.heap.size) es (w.alloc (.cells cZ 27)) hc (jx.mono (jx.keeps (jx.fresh hJ) (hk1 _)) (fun b hb => hb.imp id (fun e => by omega))) (fun b hb => by
  rw [World.size_alloc]
  rcases hb with hb | rfl
  ·have := hE b hb; omega
  ·omega)
 obtain ⟨Z, hZ⟩ : ∃ Z, Z = (semT s t).leave p k had := ⟨_, rfl⟩
 rw [← hZ] at hcall ⊢
 clear hZ
 unfold capV at hcall
 have HCALL := Lib.hid hcall
 have HX := Lib.hid jx
 have HJ := Lib.hid hJ
 have HR0 := Lib.hid hr0
 have HM2 := Lib.hid (fun b hb => (jx.lt hJ b hb).1)
 have HK1 := Lib.hid hk1
 clear hcall jx hJ hr0 iv hx ha hp hh hb hL hk1
 unfold capV
 go_enter Tryz.func171, Tryz.ntmps171
 go_wp2_with fail
 refine HCALL.out.mono ?_
 rintro e w3 ⟨gs, rfl, hpre, hJ3, hk3⟩
 have hr3 : VRow w3 w.heap.size 10 27 (fun _ => .complex .f64 0 0) := ⟨(hk3.block _ HR0.out.lt (fun e => by
  rcases e with (e | e | e) | e
  ·omega
  ·omega
  ·omega
  ·have := HM2.out _ e; omega)).trans HR0.out.heap⟩
 obtain ⟨r0, r1, r2, r3, r4, r5, r6, r7, r8, r9, f0, f1, f2, f3, f4, f5, f6, f7, f8, f9⟩ := hr3.rf10
 obtain ⟨s0, s1, s2, s3, s4, s5, s6, s7, s8, s9⟩ := st10 (w := w3) (b := w.heap.size) hr3 Z
 have HKS := Lib.hid (kp10 (w := w3) (b := w.heap.size) Z)
 have HSS := Lib.hid (And.intro s0 (And.intro s1 (And.intro s2 (And.intro s3 (And.intro s4 (And.intro s5 (And.intro s6 (And.intro s7 (And.intro s8 s9)))))))))
 clear hr3 s0 s1 s2 s3 s4 s5 s6 s7 s8 s9
 have HALL := Lib.hid (And.intro hpre (And.intro hJ3 hk3))
 clear hpre hJ3 hk3
 go_wp2
 obtain ⟨s0, s1, s2, s3, s4, s5, s6, s7, s8, s9⟩ := HSS.out
 refine bodyPost_ret (v := .agg (cH Z)) (by simp [results, Tryz.results171, go_sem, s0, s1, s2, s3, s4, s5, s6, s7, s8, s9]) rfl ⟨gs, rfl, HALL.out.1, HX.out.mono (HX.out.keeps HALL.out.2.1 (HKS.out.mono (fun i _ e => .inr e))) (fun b hb => .inl hb), ?_⟩
 exact ((HK1.out _).trans HALL.out.2.2).trans2 (HKS.out) (fun i hi e => by omega)
end
end Go.Proofs.YtgllmhheahlpjaaGreatDoor
namespace Go.Proofs.YtgllmhheahlpjaaGreatDoor
open Go.RowKit Go.Maps Go.WideMaps
section
variable {X : Nat} {v : TrV} {s : List UInt8} {xs : List Nd} {B : Nat} {c1 : Lit → Nat} {n1 : Nat} {P1 : Lit → Prop} {c2 : Lit → Nat} {n2 : Nat} {M2 : Nat → Prop} {J : (Nat → Prop) → List Lit → World → Prop}
theorem leaver_c (jx : JX X v s xs B c1 n1 P1 c2 n2 M2 J) (fx : Fx v s xs B P1) (a m p : Nat) (ta tm : T) (ha : a < v.n) (hm : m < v.n) (hta : Sub (fun i => xs[i]?) ta a) (htm : Sub (fun i => xs[i]?) tm m) (hL : ∀ k, p ≤ k → k ≤ s.length → LeaveC X v s M2 J a ta p k)
  (had : Cp) (E : Nat → Prop) (es : List Lit) (w : World) (hc : CapOk s.length had) (hJ : J E es w) (hE : ∀ b, E b → b < w.heap.size) :
  Calls Tryz.prog 150 #[.pointer (some ⟨X, 0, none⟩), .int .i64 a, .int .i64 m, .int .i64 p, capV had] w fun e w' => ∃ (K : FuncId) (cap : Array Value), e = .returned (.func (.func K) #[] cap) ∧ (∀ S, Keeps S w w') ∧ ∀ k, p ≤ k → k ≤ s.length → LeftC v M2 J K cap k (leftS (semT s ta) (semT s tm).asked p had k) E es w' := by
 have iv := jx.iv hJ
 obtain ⟨lX, llb, lrb, lbn, lbr, lbl, lw⟩ := iv.lts
 have HM2 := Lib.hid (fun b hb => (jx.lt hJ b hb).1)
 have hk0 : ∀ S, Keeps S w ((((w.alloc (.cells #[.pointer (some ⟨X, 0, none⟩)] 68)).alloc (.cells #[.int .i64 a] 3)).alloc (.cells #[.int .i64 p] 3)).alloc (.cells (cH had) 27)) := fun S => ((((Keeps.refl S w).alloc _).alloc _).alloc _).alloc _
 have iv0 := iv.keeps (hk0 _)
 have x2 := iv0.tr.c2
 have ra := (iv0.role ha hta).c2
 have rm := (iv0.role hm htm).c0
 have hand := gw_and (semT s ta).ever (semT s tm).asked
 have hdis := gw_disj (G := (semT s ta).ever) (H := (semT s tm).asked)
 have hn := fx.n2
 have b1 : Blk ((((w.alloc (.cells #[.pointer (some ⟨X, 0, none⟩)] 68)).alloc (.cells #[.int .i64 a] 3)).alloc (.cells #[.int .i64 p] 3)).alloc (.cells (cH had) 27)) w.heap.size #[.pointer (some ⟨X, 0, none⟩)] 68 := (((Blk.new w _ _).alloc _).alloc _).alloc _
 have b2 : Blk ((((w.alloc (.cells #[.pointer (some ⟨X, 0, none⟩)] 68)).alloc (.cells #[.int .i64 a] 3)).alloc (.cells #[.int .i64 p] 3)).alloc (.cells (cH had) 27)) (w.heap.size + 1) #[.int .i64 a] 3 := by
  have := Blk.new (w.alloc (.cells #[.pointer (some ⟨X, 0, none⟩)] 68)) #[.int .i64 a] 3
  rw [World.size_alloc] at this
  exact (this.alloc _).alloc _
 have b3 : Blk ((((w.alloc (.cells #[.pointer (some ⟨X, 0, none⟩)] 68)).alloc (.cells #[.int .i64 a] 3)).alloc (.cells #[.int .i64 p] 3)).alloc (.cells (cH had) 27)) (w.heap.size + 2) #[.int .i64 p] 3 := by
  have := Blk.new ((w.alloc (.cells #[.pointer (some ⟨X, 0, none⟩)] 68)).alloc (.cells #[.int .i64 a] 3)) #[.int .i64 p] 3
  rw [World.size_alloc, World.size_alloc] at this
  exact this.alloc _
 have b4 : Blk ((((w.alloc (.cells #[.pointer (some ⟨X, 0, none⟩)] 68)).alloc (.cells #[.int .i64 a] 3)).alloc (.cells #[.int .i64 p] 3)).alloc (.cells (cH had) 27)) (w.heap.size + 3) (cH had) 27 := by
  have := Blk.new (((w.alloc (.cells #[.pointer (some ⟨X, 0, none⟩)] 68)).alloc (.cells #[.int .i64 a] 3)).alloc (.cells #[.int .i64 p] 3)) (cH had) 27
  rw [World.size_alloc, World.size_alloc, World.size_alloc] at this
  exact this
 have HBL := Lib.hid (And.intro b1 (And.intro b2 (And.intro b3 b4)))
 have q1 := b1.cell 0; have q2 := b2.cell 0
 simp only [List.getElem?_toArray, List.getElem?_cons_zero] at q1 q2
 have HX := Lib.hid jx
 have HE := Lib.hid hE
 have HC := Lib.hid hc
 have HK0 := Lib.hid hk0
 have HL := Lib.hid hL
 have HNO := Lib.hid (fun (b : Nat) (hb : w.heap.size ≤ b) => (show ¬ ((Mt v b ∨ M2 b) ∨ E b) from fun e => by
  rcases e with (e | e) | e
  ·rcases e with e | e | e <;> omega
  ·have := HM2.out b e; omega
  ·have := hE b e; omega))
 obtain ⟨D, hD⟩ : ∃ D, D = gw (fun g => (semT s ta).ever g && (semT s tm).asked g) := ⟨_, rfl⟩
 rw [← hD] at hand hdis
 have HDIS := Lib.hid hdis
 generalize gw (semT s ta).ever = A1 at *
 generalize gw (semT s tm).asked = A2 at *
 clear iv iv0 hk0 b1 b2 b3 b4 jx hE hJ hL hc hD hdis
 unfold capV
 cases hd : disj (semT s ta).ever (semT s tm).asked with
 | true =>
  have hz : ((D : Int) == 0) = true := by rw [HDIS.out.2 hd]; rfl
  go_enter Tryz.func150, Tryz.ntmps150
  go_wp2_with fail
  go_region
  go_wp2
  go_ret
  refine ⟨170, #[.pointer (some ⟨w.heap.size + 3, 0, none⟩)], rfl, fun S => (HK0.out S).drew, fun k h1 h2 => ⟨fun w => rfl, fun fs w' hpre hJ' hk' => ?_⟩⟩
  have hb := HBL.out.2.2.2.drew.keeps hk' (HNO.out _ (by omega))
  refine (left1_c (w.heap.size + 3) k had w' hb).mono ?_
  rintro e w2 ⟨rfl, hk2⟩
  refine ⟨fs, ?_, List.prefix_refl _, HX.out.keeps hJ' (hk2 _), hk2 _⟩
  unfold leftS
  rw [if_pos hd]
 | false =>
  have hz : ((D : Int) == 0) = false := by
   rw [beq_eq_false_iff_ne]
   intro e
   have := HDIS.out.1 (by omega)
   rw [hd] at this; cases this
  go_enter Tryz.func150, Tryz.ntmps150
  go_wp2_with fail
  go_region
  go_wp2
  go_ret
  refine ⟨171, #[.pointer (some ⟨w.heap.size, 0, none⟩), .pointer (some ⟨w.heap.size + 1, 0, none⟩), .pointer (some ⟨w.heap.size + 2, 0, none⟩), .pointer (some ⟨w.heap.size + 3, 0, none⟩)], rfl, fun S => (HK0.out S).drew, fun k h1 h2 => ⟨fun w => rfl, fun fs w' hpre hJ' hk' => ?_⟩⟩
  have k1 := HBL.out.1.drew.keeps hk' (HNO.out _ (by omega))
  have k2 := HBL.out.2.1.drew.keeps hk' (HNO.out _ (by omega))
  have k3 := HBL.out.2.2.1.drew.keeps hk' (HNO.out _ (by omega))
  have k4 := HBL.out.2.2.2.drew.keeps hk' (HNO.out _ (by omega))
  have hsz : ((((w.alloc (.cells #[.pointer (some ⟨X, 0, none⟩)] 68)).alloc (.cells #[.int .i64 a] 3)).alloc (.cells #[.int .i64 p] 3)).alloc (.cells (cH had) 27)).drew.heap.size ≤ w'.heap.size := hk'.size
  refine (left2_c HX.out a p k _ _ _ _ ta had (HL.out k h1 h2) HC.out E fs w' hJ' (fun b hb => by
   have h1 := HE.out b hb
   have h2 := (HK0.out (fun _ => False)).size
   have h3 : ((((w.alloc (.cells #[.pointer (some ⟨X, 0, none⟩)] 68)).alloc (.cells #[.int .i64 a] 3)).alloc (.cells #[.int .i64 p] 3)).alloc (.cells (cH had) 27)).drew.heap.size = ((((w.alloc (.cells #[.pointer (some ⟨X, 0, none⟩)] 68)).alloc (.cells #[.int .i64 a] 3)).alloc (.cells #[.int .i64 p] 3)).alloc (.cells (cH had) 27)).heap.size := rfl
   omega) k1 k2 k3 k4).mono ?_
  rintro e w2 ⟨gs, rfl, hp2, hJ2, hk2⟩
  refine ⟨gs, ?_, hp2, hJ2, hk2⟩
  unfold leftS
  rw [if_neg (by rw [hd]; exact Bool.false_ne_true)]
theorem LeftC.mono {K : FuncId} {cap : Array Value} {k : Nat} {had : Cp} {E : Nat → Prop} {es fs : List Lit} {w w' : World} (h : LeftC v M2 J K cap k had E es w) (hp : es <+: fs) (hk : Keeps (fun b => (Mt v b ∨ M2 b) ∨ E b) w w') : LeftC v M2 J K cap k had E fs w' :=
 ⟨h.1, fun gs w2 hp2 hJ2 hk2 => h.2 gs w2 (hp.trans hp2) hJ2 (hk.trans hk2)⟩
end
end Go.Proofs.YtgllmhheahlpjaaGreatDoor
