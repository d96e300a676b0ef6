/- A trial: leave where nothing is ever left; a look that tells all. -/
import Derived.Test.YtgllmhheahlpjaaGreatDoorJMcK
import Derived.Deep.CutBlock
set_option linter.unusedVariables false
set_option linter.unusedSimpArgs false
set_option maxRecDepth 100000
set_option maxHeartbeats 40000000
namespace Go.Proofs.YtgllmhheahlpjaaGreatDoor
open Go.RowKit Go.Maps Go.WideMaps
theorem MapA.look_all {k : TypeId} {w : World} {b N : Nat} {code : Lit → Nat} {ok : Lit → Prop} {L : Lit → Option Value} (h : MapA k w b code N ok L) (K : Keyed Tryz.prog k) {t e : TypeId} (ht : Tryz.prog.underlying t = some (.map k e)) {z : Value} (hz : ∀ w, (zeroValue e).run Tryz.prog w = .ok z w) {key : Value} {kl : Lit} (hkey : keyOf Tryz.prog k key = some kl) :
  (Instr.lookup t (.map (some b)) key true).run Tryz.prog w = .ok (.tuple #[(L kl).getD z, .bool (L kl).isSome]) w := by
 obtain ⟨n, D, h1, h2⟩ := h.own
 obtain ⟨v, ps, hrun, hv⟩ := h1.look_ok K ht (hz w) (zd := .held z) (zp := []) rfl hkey
 obtain ⟨e1, e2⟩ := h2 kl (K.key hkey)
 rw [hrun, e1]
 cases hl : L kl with
 | some u =>
  rw [e2 u hl] at hv
  cases hv
  rfl
 | none =>
  rw [hl] at e1
  rw [atKey_of_not_has e1] at hv
  cases hv
  rfl
section
variable {X : Nat} {v : TrV} {s : List UInt8} {xs : List Nd} {B : Nat} {c1 : Lit → Nat} {n1 : Nat} {P1 : Lit → Prop} {c2 : Lit → Nat} {n2 : Nat} {M2 : Nat → Prop} {J : (Nat → Prop) → List Lit → World → Prop}
theorem leave_none (jx : JX X v s xs B c1 n1 P1 c2 n2 M2 J) (fx : Fx v s xs B P1) (n p j : Nat) (t : T) (hn : n < v.n) (ht : Sub (fun i => xs[i]?) t n) (hev : noG (semT s t).ever = true) : LeaveC X v s M2 J n t p j := by
 intro had E es w hcap hJ hE
 have iv := jx.iv hJ
 have hn2 := fx.n2
 have hk2 : ∀ S, Keeps S w ((w.alloc (.cells (cH had) 27)).alloc (.cells cZ 27)) := fun S => ((Keeps.refl S w).alloc _).alloc _
 have iv2 := iv.keeps (hk2 _)
 have x2 := iv2.tr.c2
 have r2 := (iv2.role hn ht).c2
 rw [gw_zero.2 hev] at r2
 have hb := (capBlk w had).alloc (.cells cZ 27)
 obtain ⟨k0, k1, k2, k3, k4, k5, k6, k7, k8, k9⟩ := capBlk.ten (w := ((w.alloc (.cells (cH had) 27)).alloc (.cells cZ 27))) (b := w.heap.size) (had := had) hb
 have HX := Lib.hid jx
 have HJ := Lib.hid hJ
 have HEV := Lib.hid hev
 clear hk2 iv iv2 hb hJ jx hev
 unfold capV
 go_enter Tryz.func72, Tryz.ntmps72
 go_wp2
 have hK : ∀ S, Keeps S w ((w.alloc (.cells (cH had) 27)).alloc (.cells (cH had) 27)) := fun S => ((Keeps.refl S w).alloc _).alloc _
 refine bodyPost_ret (v := .agg (cH had)) (by simp [results, Tryz.results72, go_sem]) rfl ⟨es, ?_, List.prefix_refl _, HX.out.keeps HJ.out (hK _), hK _⟩
 unfold Sem.leave
 rw [if_pos HEV.out]
end
end Go.Proofs.YtgllmhheahlpjaaGreatDoor
namespace Go.Proofs.YtgllmhheahlpjaaGreatDoor
open Go.RowKit Go.Maps Go.WideMaps Go.Proofs.YtgllmhheahlpjaaGreatDoor.Fl
def spx : Option (Nat × Nat) → Nat
 | none => NEGB
 | some (a, _) => floatOfInt .f64 (a : Int)
def spy : Option (Nat × Nat) → Nat
 | none => NEGB
 | some (_, b) => floatOfInt .f64 (b : Int)
theorem spV_xy (o : Option (Nat × Nat)) : spV o = .complex .f64 (spx o) (spy o) := by
 cases o with
 | none => rfl
 | some p => obtain ⟨a, b⟩ := p; rfl
theorem capsHu : Tryz.prog.underlying 100 = some (.map 142 27) := Tryz.underlying100
section
variable (X : Nat) (v : TrV) (s : List UInt8) (M2 : Nat → Prop) (J : (Nat → Prop) → List Lit → World → Prop)
def WalkC (n : Nat) (t : T) (p j : Nat) : Prop := ∀ (had : Cp) (E : Nat → Prop) (es : List Lit) (w : World), CapOk s.length had → J E es w → (∀ b, E b → b < w.heap.size) →
 Calls Tryz.prog 109 #[.pointer (some ⟨X, 0, none⟩), .int .i64 n, .int .i64 p, .int .i64 j, capV had] w fun e w' => ∃ fs : List Lit, e = .returned (capV ((semT s t).walk p j had)) ∧ es <+: fs ∧ J E fs w' ∧ Keeps (fun b => Mt v b ∨ M2 b) w w'
end
section
variable {X : Nat} {v : TrV} {s : List UInt8} {xs : List Nd} {B : Nat} {c1 : Lit → Nat} {n1 : Nat} {P1 : Lit → Prop} {c2 : Lit → Nat} {n2 : Nat} {M2 : Nat → Prop} {J : (Nat → Prop) → List Lit → World → Prop}
theorem leave_kept (jx : JX X v s xs B c1 n1 P1 c2 n2 M2 J) (fx : Fx v s xs B P1) (n p j : Nat) (t : T) (hn : n < v.n) (hp : p ≤ j) (hj : j ≤ s.length) (ht : Sub (fun i => xs[i]?) t n) (hev : noG (semT s t).ever = false) (hW : WalkC X v s M2 J n t p j) : LeaveC X v s M2 J n t p j := by
 intro had E es w hcap hJ hE
 have iv := jx.iv hJ
 have hn2 := fx.n2
 have hsl := fx.sl
 have hB2 := fx.B2
 have hB3 := fx.B3
 obtain ⟨lX, llb, lrb, lbn, lbr, lbl, lw⟩ := iv.lts
 have hmx := iv.nums.max
 have emx : maxLen = 9223372036854775807 := by decide
 rw [emx] at hmx
 have HM2 := Lib.hid (fun b hb => (jx.lt hJ b hb).1)
 have hk2 : ∀ S, Keeps S w ((w.alloc (.cells (cH had) 27)).alloc (.cells cZ 27)) := fun S => ((Keeps.refl S w).alloc _).alloc _
 have hs2 : ((w.alloc (.cells (cH had) 27)).alloc (.cells cZ 27)).heap.size = w.heap.size + 2 := by simp
 have hJ2 : J (fun b => E b ∨ (w.heap.size ≤ b ∧ b < w.heap.size + 2)) es ((w.alloc (.cells (cH had) 27)).alloc (.cells cZ 27)) := jx.mono (jx.keeps (jx.fresh hJ) (hk2 _)) (fun b hb => hb.imp id (fun e => e.1))
 have iv2 := jx.iv hJ2
 have x2 := iv2.tr.c2
 have r2 := (iv2.role hn ht).c2
 have hz : ((gw (semT s t).ever : Int) == 0) = false := by
  rw [beq_eq_false_iff_ne]
  intro e
  have := gw_zero.1 (by omega : gw (semT s t).ever = 0)
  rw [hev] at this; cases this
 have hb := (capBlk w had).alloc (.cells cZ 27)
 obtain ⟨k0, k1, k2, k3, k4, k5, k6, k7, k8, k9⟩ := capBlk.ten (w := ((w.alloc (.cells (cH had) 27)).alloc (.cells cZ 27))) (b := w.heap.size) (had := had) hb
 have hr0 : VRow ((w.alloc (.cells (cH had) 27)).alloc (.cells cZ 27)) (w.heap.size + 1) 10 27 (fun _ => .complex .f64 0 0) := by
  have := VRow.new (w.alloc (.cells (cH had) 27)) 10 27 (fun _ => .complex .f64 0 0)
  rw [World.size_alloc] at this
  exact this
 have hst := stateof_c fx n p j t had hn ht hcap ((w.alloc (.cells (cH had) 27)).alloc (.cells cZ 27)) iv2 (fun b hb => by
  rw [hs2]
  rcases hb with (hb | hb) | hb
  ·have := hE b hb; omega
  ·omega
  ·have := HM2.out b hb; omega) iv2.out.2.2.2.1
 unfold capV at hst
 have HST := Lib.hid hst
 have HX := Lib.hid jx
 have HF := Lib.hid fx
 have HE := Lib.hid hE
 have HJ2 := Lib.hid hJ2
 have HEV := Lib.hid hev
 have HCAP := Lib.hid hcap
 have HW := Lib.hid hW
 have HK2 := Lib.hid hk2
 have HB2 := Lib.hid (And.intro hb hr0)
 generalize gw (semT s t).ever = gE at *
 clear hk2 iv iv2 hb hJ hJ2 jx hev hcap hW hE fx emx hst hr0
 unfold capV
 go_enter Tryz.func72, Tryz.ntmps72
 go_wp2_with fail
 refine HST.out.mono ?_
 rintro e w3 ⟨fs, q, rfl, hpre, hnof, hq, iv3, hk3⟩
 have lsz3 := hk3.size
 have hJ3 := HX.out.own HJ2.out iv3 (hk3.mono (fun i _ e => .inl e))
 have hb3 := HB2.out.1.keeps hk3 (by omega)
 have hr3 : VRow w3 (w.heap.size + 1) 10 27 (fun _ => .complex .f64 0 0) := ⟨(hk3.block _ HB2.out.2.lt (by omega)).trans HB2.out.2.heap⟩
 obtain ⟨L, hL3, hL23⟩ := iv3.left
 have hkd : ∀ S, Keeps S w3 ((w3.alloc (.cells #[.int .i64 n, .int .i64 p, .int .i64 j, .int .i64 q] 142)).alloc (.cells cZ 27)).drew := fun S => (((Keeps.refl S w3).alloc _).alloc _).drew
 have iv4 := iv3.keeps (hkd _)
 have hkc : ∀ S, Keeps S w3 (w3.alloc (.cells #[.int .i64 n, .int .i64 p, .int .i64 j, .int .i64 q] 142)).drew := fun S => ((Keeps.refl S w3).alloc _).drew
 have iv5 := iv3.keeps (hkc _)
 have hL := hL3.of_heap ((hkd (fun _ => False)).block _ hL3.blt id)
 have hLc := hL3.of_heap ((hkc (fun _ => False)).block _ hL3.blt id)
 have hkey := keyOf_state (a := n) (b := p) (c := j) (d := q) (nat_wf (by omega)) (nat_wf (by omega)) (nat_wf (by omega)) (nat_wf (by omega))
 have hlook := hL.look_all stateKeyed capsHu (z := .agg cZ) (by intro w; kernel_rfl) hkey
 have hlook2 := hLc.look_all stateKeyed capsHu (z := .agg cZ) (by intro w; kernel_rfl) hkey
 have x5 := iv4.tr.c5
 have x5c := iv5.tr.c5
 have hfc := (Four.new w3 142 (.int .i64 n) (.int .i64 p) (.int .i64 j) (.int .i64 q))
 have h0 := hfc.c0; have h1 := hfc.c1; have h2 := hfc.c2; have h3 := hfc.c3
 have hfour := ((Four.new w3 142 (.int .i64 n) (.int .i64 p) (.int .i64 j) (.int .i64 q)).alloc (.cells cZ 27)).drew
 have f0 := hfour.c0; have f1 := hfour.c1; have f2 := hfour.c2; have f3 := hfour.c3
 have HALL3 := Lib.hid (And.intro hpre (And.intro hnof (And.intro hq (And.intro iv3 (And.intro hk3 (And.intro hJ3 (And.intro hb3 (And.intro hr3 hkey))))))))
 have HL2 := Lib.hid hL23
 have hcase : ∃ ua ub : Nat → Nat, (L (stK n p j q)).getD (.agg cZ) = .agg #[.complex .f64 (ua 0) (ub 0), .complex .f64 (ua 1) (ub 1), .complex .f64 (ua 2) (ub 2), .complex .f64 (ua 3) (ub 3), .complex .f64 (ua 4) (ub 4), .complex .f64 (ua 5) (ub 5), .complex .f64 (ua 6) (ub 6), .complex .f64 (ua 7) (ub 7), .complex .f64 (ua 8) (ub 8), .complex .f64 (ua 9) (ub 9)] ∧ (∀ u, L (stK n p j q) = some u → ∃ (t' : T) (had' : Cp), Sub (fun i => xs[i]?) t' n ∧ CapOk s.length had' ∧ nOf fs (semT s t').asked had' = some q ∧ ∀ i, i < 10 → Value.complex .f64 (ua i) (ub i) = spV ((semT s t').walk p j (onlyC had' (semT s t').asked) i)) := by
  cases hLk : L (stK n p j q) with
  | some u =>
   obtain ⟨t', had', hs', hc', hno', rfl⟩ := HL2.out n p j q u ⟨hn, by omega, by omega, HALL3.out.2.2.1⟩ hLk
   exact ⟨fun i => spx ((semT s t').walk p j (onlyC had' (semT s t').asked) i), fun i => spy ((semT s t').walk p j (onlyC had' (semT s t').asked) i), by unfold capV; simp only [Option.getD_some, spV_xy], fun u hu => ⟨t', had', hs', hc', hno', fun i hi => (spV_xy _).symm⟩⟩
  | none => exact ⟨fun _ => 0, fun _ => 0, rfl, fun u hu => by cases hu⟩
 obtain ⟨ua, ub, hU1, hU2⟩ := hcase
 rw [hU1] at hlook hlook2
 obtain ⟨is, his⟩ : ∃ is, is = (L (stK n p j q)).isSome := ⟨_, rfl⟩
 rw [← his] at hlook hlook2
 have HU := Lib.hid (And.intro hU2 his)
 clear hpre hnof iv3 hk3 hJ3 hb3 hr3 hkd iv4 hL hL3 hL23 hLc hkc iv5 hfc hkey hfour HST hU1 hU2 his k0 k1 k2 k3 k4 k5 k6 k7 k8 k9
 go_upto_region 4 with fail
 go_cut [12, 13] from 14 (fun ov bv wx => ov = .pointer (some ⟨w3.heap.size + 1, 0, none⟩) ∧ bv = .bool is ∧ (∀ S, Keeps S w3 wx) ∧ Four wx w3.heap.size 142 (.int .i64 n) (.int .i64 p) (.int .i64 j) (.int .i64 q) ∧ VRow wx (w3.heap.size + 1) 10 27 (fun i => .complex .f64 (ua i) (ub i)))
 case first =>
  go_wp2_with fail
  go_region
  all_goals (
   (try go_wp2_with fail)
   go_meet
   refine ⟨rfl, rfl, fun S => (((Keeps.refl S w3).alloc _).alloc _).drew, ((Four.new w3 142 (.int .i64 n) (.int .i64 p) (.int .i64 j) (.int .i64 q)).alloc _).drew, ?_⟩
   have := (VRow.new (w3.alloc (.cells #[.int .i64 n, .int .i64 p, .int .i64 j, .int .i64 q] 142)) 10 27 (fun i => .complex .f64 (ua i) (ub i))).drew
   rw [World.size_alloc] at this
   exact this)
 case rest =>
  obtain ⟨rfl, rfl, hkx, hfx, hux⟩ := hcut
  clear hlook hlook2 x5 x5c h0 h1 h2 h3 f0 f1 f2 f3
  have hbx := HALL3.out.2.2.2.2.2.2.1.keeps (hkx (fun _ => False)) id
  have hrx : VRow wc (w.heap.size + 1) 10 27 (fun _ => .complex .f64 0 0) := ⟨((hkx (fun _ => False)).block _ HALL3.out.2.2.2.2.2.2.2.1.lt id).trans HALL3.out.2.2.2.2.2.2.2.1.heap⟩
  have lx : w3.heap.size + 2 ≤ wc.heap.size := by have := hux.lt; omega
  obtain ⟨k0, k1, k2, k3, k4, k5, k6, k7, k8, k9⟩ := capBlk.ten (w := wc) (b := w.heap.size) (had := had) hbx
  have HXX := Lib.hid (And.intro hkx (And.intro hfx (And.intro hux (And.intro hbx hrx))))
  clear hkx hfx hbx hrx
  cases hLk : L (stK n p j q) with
  | some u =>
   obtain ⟨t', had', hs', hc', hno', hUz⟩ := HU.out.1 u hLk
   obtain rfl : true = is := by rw [HU.out.2, hLk]; rfl
   obtain rfl := sub_uniq t' t n hs' ht
   have hsame := onlyC_congr (nOf_same (HF.out.ok n t' hn ht).2.1 HCAP.out hc' (by omega) HALL3.out.2.1 hno')
   rw [← hsame] at hUz
   obtain ⟨Z, hZ⟩ : ∃ Z, Z = (semT s t').walk p j (onlyC had (semT s t').asked) := ⟨_, rfl⟩
   rw [← hZ] at hUz
   have u0 : wc.cell? ⟨w3.heap.size + 1, 0, none⟩ = some (spV (Z 0)) := by rw [hux.cell 0 (by decide), hUz 0 (by decide)]
   have u1 : wc.cell? ⟨w3.heap.size + 1, 1, none⟩ = some (spV (Z 1)) := by rw [hux.cell 1 (by decide), hUz 1 (by decide)]
   have u2 : wc.cell? ⟨w3.heap.size + 1, 2, none⟩ = some (spV (Z 2)) := by rw [hux.cell 2 (by decide), hUz 2 (by decide)]
   have u3 : wc.cell? ⟨w3.heap.size + 1, 3, none⟩ = some (spV (Z 3)) := by rw [hux.cell 3 (by decide), hUz 3 (by decide)]
   have u4 : wc.cell? ⟨w3.heap.size + 1, 4, none⟩ = some (spV (Z 4)) := by rw [hux.cell 4 (by decide), hUz 4 (by decide)]
   have u5 : wc.cell? ⟨w3.heap.size + 1, 5, none⟩ = some (spV (Z 5)) := by rw [hux.cell 5 (by decide), hUz 5 (by decide)]
   have u6 : wc.cell? ⟨w3.heap.size + 1, 6, none⟩ = some (spV (Z 6)) := by rw [hux.cell 6 (by decide), hUz 6 (by decide)]
   have u7 : wc.cell? ⟨w3.heap.size + 1, 7, none⟩ = some (spV (Z 7)) := by rw [hux.cell 7 (by decide), hUz 7 (by decide)]
   have u8 : wc.cell? ⟨w3.heap.size + 1, 8, none⟩ = some (spV (Z 8)) := by rw [hux.cell 8 (by decide), hUz 8 (by decide)]
   have u9 : wc.cell? ⟨w3.heap.size + 1, 9, none⟩ = some (spV (Z 9)) := by rw [hux.cell 9 (by decide), hUz 9 (by decide)]
   have hcz : CapOk s.length Z := by rw [hZ]; exact (HF.out.ok n t' hn ht).2.1.cap p j _ (HCAP.out.only _) hp hj
   have HOV := Lib.hid (fun w => over_c had Z (fun g a b e => by have := hcz g a b e; omega) w)
   have hlv : (semT s t').leave p j had = overC had Z := by unfold Sem.leave; rw [hZ, HEV.out]; rfl
   obtain ⟨Y, hY⟩ : ∃ Y, Y = overC had Z := ⟨_, rfl⟩
   rw [← hY] at HOV hlv
   have HOV2 := Lib.hid HOV.out
   unfold capV at HOV2
   have HLV := Lib.hid hlv
   clear hLk hs' hc' hno' hsame hUz hZ hcz HOV hlv hY hux
   go_wp2_with fail
   refine (HOV2.out _).mono ?_
   rintro e w6 ⟨rfl, hB6⟩
   have hr6 : VRow w6 (w.heap.size + 1) 10 27 (fun _ => .complex .f64 0 0) := HXX.out.2.2.2.2.below hB6 HXX.out.2.2.2.2.lt
   have hk6 : ∀ S, Keeps S w3 w6 := fun S => (HXX.out.1 S).trans (Keeps.of_below hB6)
   clear hB6 u0 u1 u2 u3 u4 u5 u6 u7 u8 u9 k0 k1 k2 k3 k4 k5 k6 k7 k8 k9 HOV2
   have HK6 := Lib.hid hk6
   obtain ⟨r0, r1, r2, r3, r4, r5, r6, r7, r8, r9, f0, f1, f2, f3, f4, f5, f6, f7, f8, f9⟩ := hr6.rf10
   obtain ⟨s0, s1, s2, s3, s4, s5, s6, s7, s8, s9⟩ := st10 (w := w6) (b := w.heap.size + 1) hr6 Y
   have HKS := Lib.hid (kp10 (w := w6) (b := w.heap.size + 1) Y)
   have HSS := Lib.hid (And.intro s0 (And.intro s1 (And.intro s2 (And.intro s3 (And.intro s4 (And.intro s5 (And.intro s6 (And.intro s7 (And.intro s8 s9)))))))))
   clear hr6 s0 s1 s2 s3 s4 s5 s6 s7 s8 s9
   clear hk6
   go_wp2
   obtain ⟨s0, s1, s2, s3, s4, s5, s6, s7, s8, s9⟩ := HSS.out
   refine bodyPost_ret (v := .agg (cH Y)) (by simp [results, Tryz.results72, go_sem, s0, s1, s2, s3, s4, s5, s6, s7, s8, s9]) rfl ⟨fs, ?_, HALL3.out.1, HX.out.mono (HX.out.keeps (HX.out.keeps HALL3.out.2.2.2.2.2.1 (HK6.out _)) (HKS.out.mono (fun i _ e => .inr (by subst e; omega)))) (fun b hb => .inl hb), ?_⟩
   ·rw [HLV.out]
   ·exact ((((HK2.out _).trans (HALL3.out.2.2.2.2.1.mono (fun i _ e => .inl (.inl e)))).trans (HK6.out _))).trans2 HKS.out (fun i hi e => by omega)
  | none =>
   obtain rfl : false = is := by rw [HU.out.2, hLk]; rfl
   obtain ⟨wa, rfl⟩ : ∃ wa, wa = wc := ⟨_, rfl⟩
   obtain ⟨Y0, hY0⟩ : ∃ Y0, Y0 = onlyC had (semT s t).asked := ⟨_, rfl⟩
   obtain ⟨Z, hZ⟩ : ∃ Z, Z = (semT s t).walk p j Y0 := ⟨_, rfl⟩
   have hc0 : CapOk s.length Y0 := by rw [hY0]; exact HCAP.out.only _
   have hcz : CapOk s.length Z := by rw [hZ]; exact (HF.out.ok n t hn ht).2.1.cap p j _ hc0 hp hj
   have hJa : J (fun b => E b ∨ (w.heap.size ≤ b ∧ b < w.heap.size + 2) ∨ (w3.heap.size ≤ b ∧ b < w3.heap.size + 2)) fs wa := HX.out.mono (HX.out.keeps (HX.out.fresh HALL3.out.2.2.2.2.2.1) (HXX.out.1 _)) (fun b hb => by
    rcases hb with hb | hb | hb
    ·exact .inl (.inl hb)
    ·exact .inl (.inr hb)
    ·exact .inr hb.1)
   have hEa : ∀ b, (E b ∨ (w.heap.size ≤ b ∧ b < w.heap.size + 2) ∨ (w3.heap.size ≤ b ∧ b < w3.heap.size + 2)) → b < wa.heap.size := fun b hb => by
    have l1 : w.heap.size + 2 ≤ w3.heap.size := by have := HALL3.out.2.2.2.2.1.size; rw [hs2] at this; exact this
    rcases hb with hb | hb | hb
    ·have := HE.out b hb; omega
    ·omega
    ·omega
   have hno : ∀ b, w.heap.size ≤ b → ¬ (Mt v b ∨ M2 b) := fun b hb e => by
    rcases e with e | e
    ·rcases e with e | e | e <;> omega
    ·have := HM2.out b e; omega
   have HJA := Lib.hid (And.intro hJa hEa)
   have HNO := Lib.hid hno
   have hon := fun w => only_c had (semT s t).asked w
   rw [← hY0] at hon
   unfold capV at hon
   have HON := Lib.hid hon
   have HZ := Lib.hid (And.intro hY0 (And.intro hZ (And.intro hc0 hcz)))
   have hJd := HX.out.keeps hJa (Keeps.refl _ wa).drew
   have hra := (HX.out.iv hJd).role hn ht
   have hta := (HX.out.iv hJd).tr
   have hl31 : w.heap.size + 2 ≤ w3.heap.size := by have := HALL3.out.2.2.2.2.1.size; rw [hs2] at this; exact this
   have HRA := Lib.hid (And.intro hta hra)
   obtain ⟨gA, hgA⟩ : ∃ gA, gA = gw (semT s t).asked := ⟨_, rfl⟩
   rw [← hgA] at hon HON
   have HGA := Lib.hid hgA
   clear hLk hJa hJd hEa hno hon hc0 hcz hY0 hZ hux hra hta k0 k1 k2 k3 k4 k5 k6 k7 k8 k9 hgA hs2
   go_upto_region 6 with fail
   go_cut [13] from 14 (fun bv wx => ∃ gs : List Lit, bv = .bool false ∧ fs <+: gs ∧ J (fun b => E b ∨ (w.heap.size ≤ b ∧ b < w.heap.size + 2) ∨ (w3.heap.size ≤ b ∧ b < w3.heap.size + 2)) gs wx ∧ Keeps (fun b => (Mt v b ∨ M2 b) ∨ b = w3.heap.size + 1) wa wx ∧ Blk wx (w3.heap.size + 1) (cH Z) 27)
   case first =>
    go_wp2_with fail
    refine wp_region_noPanic ?_
    refine wp_region_held_drew (S := fun w' => Blk w' w.heap.size (cH had) 27 ∧ TrAt w' X v s ∧ RoleAt w' v.rb n (semT s t)) (by kernel_rfl) ?_ (fun hHeld => ?_)
    ·(try dsimp only); exact ⟨HXX.out.2.2.2.1.drew, HRA.out.1, HRA.out.2⟩
    refine tk (i := 0) (v := ?_) rfl ?_ ?_; rotate_left
    ·(intro wq hSw; obtain ⟨sb, st, sr⟩ := hSw; have x2 := st.c2; have r0 := sr.c0; rw [← HGA.out] at r0; obtain ⟨e0, e1, e2, e3, e4, e5, e6, e7, e8, e9⟩ := capBlk.ten (w := wq) (b := w.heap.size) (had := had) sb; go_simp); (try with_reducible rfl)
    try simp only [Act.put, tkS]
    refine tk (i := 1) (v := ?_) rfl ?_ ?_; rotate_left
    ·(intro wq hSw; obtain ⟨sb, st, sr⟩ := hSw; have x2 := st.c2; have r0 := sr.c0; rw [← HGA.out] at r0; obtain ⟨e0, e1, e2, e3, e4, e5, e6, e7, e8, e9⟩ := capBlk.ten (w := wq) (b := w.heap.size) (had := had) sb; go_simp); (try with_reducible rfl)
    try simp only [Act.put, tkS]
    refine tk (i := 2) (v := ?_) rfl ?_ ?_; rotate_left
    ·(intro wq hSw; obtain ⟨sb, st, sr⟩ := hSw; have x2 := st.c2; have r0 := sr.c0; rw [← HGA.out] at r0; obtain ⟨e0, e1, e2, e3, e4, e5, e6, e7, e8, e9⟩ := capBlk.ten (w := wq) (b := w.heap.size) (had := had) sb; go_simp); (try with_reducible rfl)
    try simp only [Act.put, tkS]
    refine tk (i := 3) (v := ?_) rfl ?_ ?_; rotate_left
    ·(intro wq hSw; obtain ⟨sb, st, sr⟩ := hSw; have x2 := st.c2; have r0 := sr.c0; rw [← HGA.out] at r0; obtain ⟨e0, e1, e2, e3, e4, e5, e6, e7, e8, e9⟩ := capBlk.ten (w := wq) (b := w.heap.size) (had := had) sb; go_simp); (try with_reducible rfl)
    try simp only [Act.put, tkS]
    refine tk (i := 4) (v := ?_) rfl ?_ ?_; rotate_left
    ·(intro wq hSw; obtain ⟨sb, st, sr⟩ := hSw; have x2 := st.c2; have r0 := sr.c0; rw [← HGA.out] at r0; obtain ⟨e0, e1, e2, e3, e4, e5, e6, e7, e8, e9⟩ := capBlk.ten (w := wq) (b := w.heap.size) (had := had) sb; go_simp); (try with_reducible rfl)
    try simp only [Act.put, tkS]
    refine tk (i := 5) (v := ?_) rfl ?_ ?_; rotate_left
    ·(intro wq hSw; obtain ⟨sb, st, sr⟩ := hSw; have x2 := st.c2; have r0 := sr.c0; rw [← HGA.out] at r0; obtain ⟨e0, e1, e2, e3, e4, e5, e6, e7, e8, e9⟩ := capBlk.ten (w := wq) (b := w.heap.size) (had := had) sb; go_simp); (try with_reducible rfl)
    try simp only [Act.put, tkS]
    refine tk (i := 6) (v := ?_) rfl ?_ ?_; rotate_left
    ·(intro wq hSw; obtain ⟨sb, st, sr⟩ := hSw; have x2 := st.c2; have r0 := sr.c0; rw [← HGA.out] at r0; obtain ⟨e0, e1, e2, e3, e4, e5, e6, e7, e8, e9⟩ := capBlk.ten (w := wq) (b := w.heap.size) (had := had) sb; go_simp); (try with_reducible rfl)
    try simp only [Act.put, tkS]
    refine tk (i := 7) (v := ?_) rfl ?_ ?_; rotate_left
    ·(intro wq hSw; obtain ⟨sb, st, sr⟩ := hSw; have x2 := st.c2; have r0 := sr.c0; rw [← HGA.out] at r0; obtain ⟨e0, e1, e2, e3, e4, e5, e6, e7, e8, e9⟩ := capBlk.ten (w := wq) (b := w.heap.size) (had := had) sb; go_simp); (try with_reducible rfl)
    try simp only [Act.put, tkS]
    refine tk (i := 8) (v := ?_) rfl ?_ ?_; rotate_left
    ·(intro wq hSw; obtain ⟨sb, st, sr⟩ := hSw; have x2 := st.c2; have r0 := sr.c0; rw [← HGA.out] at r0; obtain ⟨e0, e1, e2, e3, e4, e5, e6, e7, e8, e9⟩ := capBlk.ten (w := wq) (b := w.heap.size) (had := had) sb; go_simp); (try with_reducible rfl)
    try simp only [Act.put, tkS]
    refine tk (i := 9) (v := ?_) rfl ?_ ?_; rotate_left
    ·(intro wq hSw; obtain ⟨sb, st, sr⟩ := hSw; have x2 := st.c2; have r0 := sr.c0; rw [← HGA.out] at r0; obtain ⟨e0, e1, e2, e3, e4, e5, e6, e7, e8, e9⟩ := capBlk.ten (w := wq) (b := w.heap.size) (had := had) sb; go_simp); (try with_reducible rfl)
    try simp only [Act.put, tkS]
    refine tk (i := 10) (v := ?_) rfl ?_ ?_; rotate_left
    ·(intro wq hSw; obtain ⟨sb, st, sr⟩ := hSw; have x2 := st.c2; have r0 := sr.c0; rw [← HGA.out] at r0; obtain ⟨e0, e1, e2, e3, e4, e5, e6, e7, e8, e9⟩ := capBlk.ten (w := wq) (b := w.heap.size) (had := had) sb; go_simp); (try with_reducible rfl)
    try simp only [Act.put, tkS]
    refine tk (i := 11) (v := ?_) rfl ?_ ?_; rotate_left
    ·(intro wq hSw; obtain ⟨sb, st, sr⟩ := hSw; have x2 := st.c2; have r0 := sr.c0; rw [← HGA.out] at r0; obtain ⟨e0, e1, e2, e3, e4, e5, e6, e7, e8, e9⟩ := capBlk.ten (w := wq) (b := w.heap.size) (had := had) sb; go_simp); (try with_reducible rfl)
    try simp only [Act.put, tkS]
    refine tk (i := 12) (v := ?_) rfl ?_ ?_; rotate_left
    ·(intro wq hSw; obtain ⟨sb, st, sr⟩ := hSw; have x2 := st.c2; have r0 := sr.c0; rw [← HGA.out] at r0; obtain ⟨e0, e1, e2, e3, e4, e5, e6, e7, e8, e9⟩ := capBlk.ten (w := wq) (b := w.heap.size) (had := had) sb; go_simp); (try with_reducible rfl)
    try simp only [Act.put, tkS]
    refine wpAnyH_ready (rs := [13]) (by kernel_rfl) (by simp) ?_
    refine AllReadyH.cons rfl (fun K hK => ?_) ?_
    rotate_left
    ·exact AllReadyH.nil
    go_simp
    refine (HON.out _).mono ?_
    rintro e wN ⟨rfl, hBN⟩
    have hkN : ∀ S, Keeps S wa wN := fun S => (Keeps.refl S wa).drew.trans (Keeps.of_below hBN)
    have hJN := HX.out.keeps HJA.out.1 (hkN _)
    have HKN := Lib.hid (And.intro hkN hJN)
    clear hBN hkN hJN
    refine hK.out _ _ ?_ (fun hHeld => ?_)
    ·(try dsimp only); exact ⟨HXX.out.2.2.2.1.keeps (HKN.out.1 (fun _ => False)) id, (HX.out.iv HKN.out.2).tr, (HX.out.iv HKN.out.2).role hn ht⟩
    clear hK K
    try simp only [Act.put, tkS]
    refine wpAnyH_ready (rs := [14]) (by kernel_rfl) (by simp) ?_
    refine AllReadyH.cons rfl (fun K hK => ?_) ?_
    rotate_left
    ·exact AllReadyH.nil
    go_simp
    have hcall := HW.out Y0 _ fs wN HZ.out.2.2.1 HKN.out.2 (fun b hb => Nat.lt_of_lt_of_le (HJA.out.2 b hb) (HKN.out.1 (fun _ => False)).size)
    rw [← HZ.out.2.1] at hcall
    unfold capV at hcall
    refine hcall.mono ?_
    rintro e w6 ⟨gs, rfl, hpre6, hJ6, hk6⟩
    have hkall : Keeps (fun b => Mt v b ∨ M2 b) wa w6 := (HKN.out.1 _).trans hk6
    have hb6 := HXX.out.2.2.2.1.keeps hkall (HNO.out _ (by omega))
    have hr6 : VRow w6 (w3.heap.size + 1) 10 27 (fun i => .complex .f64 (ua i) (ub i)) := ⟨(hkall.block _ HXX.out.2.2.1.lt (HNO.out _ (by omega))).trans HXX.out.2.2.1.heap⟩
    have H6 := Lib.hid (And.intro hpre6 (And.intro hJ6 (And.intro hkall hb6)))
    clear hcall hpre6 hJ6 hk6 hkall hb6
    refine hK.out _ _ ?_ (fun hHeld => ?_)
    ·(try dsimp only); exact ⟨H6.out.2.2.2, (HX.out.iv H6.out.2.1).tr, (HX.out.iv H6.out.2.1).role hn ht⟩
    clear hK K
    try simp only [Act.put, tkS]
    obtain ⟨r0, r1, r2, r3, r4, r5, r6, r7, r8, r9, f0, f1, f2, f3, f4, f5, f6, f7, f8, f9⟩ := hr6.rf10
    have v0 := hr6.set 0 (spV (Z 0))
    have s0 : (sC1 w6 (w3.heap.size + 1) Z).cell? ⟨w3.heap.size + 1, 0, none⟩ = some (spV (Z 0)) := by rw [v0.cell 0 (by decide)]; simp
    have v1 := v0.set 1 (spV (Z 1))
    have s1 : (sC2 w6 (w3.heap.size + 1) Z).cell? ⟨w3.heap.size + 1, 1, none⟩ = some (spV (Z 1)) := by rw [v1.cell 1 (by decide)]; simp
    have v2 := v1.set 2 (spV (Z 2))
    have s2 : (sC3 w6 (w3.heap.size + 1) Z).cell? ⟨w3.heap.size + 1, 2, none⟩ = some (spV (Z 2)) := by rw [v2.cell 2 (by decide)]; simp
    have v3 := v2.set 3 (spV (Z 3))
    have s3 : (sC4 w6 (w3.heap.size + 1) Z).cell? ⟨w3.heap.size + 1, 3, none⟩ = some (spV (Z 3)) := by rw [v3.cell 3 (by decide)]; simp
    have v4 := v3.set 4 (spV (Z 4))
    have s4 : (sC5 w6 (w3.heap.size + 1) Z).cell? ⟨w3.heap.size + 1, 4, none⟩ = some (spV (Z 4)) := by rw [v4.cell 4 (by decide)]; simp
    have v5 := v4.set 5 (spV (Z 5))
    have s5 : (sC6 w6 (w3.heap.size + 1) Z).cell? ⟨w3.heap.size + 1, 5, none⟩ = some (spV (Z 5)) := by rw [v5.cell 5 (by decide)]; simp
    have v6 := v5.set 6 (spV (Z 6))
    have s6 : (sC7 w6 (w3.heap.size + 1) Z).cell? ⟨w3.heap.size + 1, 6, none⟩ = some (spV (Z 6)) := by rw [v6.cell 6 (by decide)]; simp
    have v7 := v6.set 7 (spV (Z 7))
    have s7 : (sC8 w6 (w3.heap.size + 1) Z).cell? ⟨w3.heap.size + 1, 7, none⟩ = some (spV (Z 7)) := by rw [v7.cell 7 (by decide)]; simp
    have v8 := v7.set 8 (spV (Z 8))
    have s8 : (sC9 w6 (w3.heap.size + 1) Z).cell? ⟨w3.heap.size + 1, 8, none⟩ = some (spV (Z 8)) := by rw [v8.cell 8 (by decide)]; simp
    have v9 := v8.set 9 (spV (Z 9))
    have s9 : (sC10 w6 (w3.heap.size + 1) Z).cell? ⟨w3.heap.size + 1, 9, none⟩ = some (spV (Z 9)) := by rw [v9.cell 9 (by decide)]; simp
    have HKS := Lib.hid (kp10 (w := w6) (b := w3.heap.size + 1) Z)
    have HSS := Lib.hid (And.intro s0 (And.intro s1 (And.intro s2 (And.intro s3 (And.intro s4 (And.intro s5 (And.intro s6 (And.intro s7 (And.intro s8 s9)))))))))
    have hbz : Blk _ (w3.heap.size + 1) (cH Z) 27 := ⟨by rw [v9.heap]; rfl⟩
    clear hr6 v0 v1 v2 v3 v4 v5 v6 v7 v8 v9 s0 s1 s2 s3 s4 s5 s6 s7 s8 s9
    refine wpAnyH_ready (rs := [15]) (by kernel_rfl) (by simp) ?_
    refine AllReadyH.cons rfl (fun K hK => ?_) ?_
    rotate_left
    ·exact AllReadyH.nil
    have HKS2 := HKS.out
    have hJ7 := HX.out.keeps H6.out.2.1 (HKS2.mono (fun i _ e => .inr (.inr (by subst e; omega))))
    have H7 := Lib.hid (And.intro hJ7 (And.intro HKS2 hbz))
    clear hJ7 HKS2 hbz
    go_simp
    refine hK.out _ _ ?_ (fun hHeld => ?_)
    ·(try dsimp only); exact ⟨H6.out.2.2.2.keeps H7.out.2.1 (by omega), (HX.out.iv H7.out.1).tr, (HX.out.iv H7.out.1).role hn ht⟩
    clear hK K
    try simp only [Act.put, tkS]
    refine wpAnyH_done (by kernel_rfl) ?_ _
    refine NoPanic.normal ?_
    go_step
    go_step
    go_meet
    exact ⟨gs, rfl, H6.out.1, H7.out.1, (H6.out.2.2.1.mono (fun i _ e => .inl e)).trans (H7.out.2.1.mono (fun i _ e => .inr e)), H7.out.2.2⟩
   case rest =>
    obtain ⟨gs, rfl, hpre7, hJ7, hk7, hb7⟩ := hcut
    obtain ⟨wb, rfl⟩ : ∃ wb, wb = wc := ⟨_, rfl⟩
    have hf7 : Four wb w3.heap.size 142 (.int .i64 n) (.int .i64 p) (.int .i64 j) (.int .i64 q) := ⟨(hk7.block _ HXX.out.2.1.lt (fun e => e.elim (HNO.out _ (by omega)) (by omega))).trans HXX.out.2.1.heap⟩
    have c7 := HXX.out.2.2.2.1.keeps hk7 (fun e => e.elim (HNO.out _ (by omega)) (by omega))
    have hr7 : VRow wb (w.heap.size + 1) 10 27 (fun _ => .complex .f64 0 0) := ⟨(hk7.block _ HXX.out.2.2.2.2.lt (fun e => e.elim (HNO.out _ (by omega)) (by omega))).trans HXX.out.2.2.2.2.heap⟩
    have iv7 := (HX.out.iv hJ7).mono (E' := fun b => (E b ∨ (w.heap.size ≤ b ∧ b < w.heap.size + 2)) ∨ M2 b) (fun b hb => by
     rcases hb with (hb | hb) | hb
     ·exact .inl (.inl hb)
     ·exact .inl (.inr (.inl hb))
     ·exact .inr hb)
    have iv7d := iv7.keeps ((Keeps.refl _ wb).drew)
    obtain ⟨L7, hL7, hL72⟩ := iv7d.left
    obtain ⟨w8, hup, hm8, hgr⟩ := hL7.update stateKeyed capsHu (val := .agg (cH Z)) HALL3.out.2.2.2.2.2.2.2.2 ⟨n, p, j, q, hn, by omega, by omega, HALL3.out.2.2.1, rfl⟩
    have hk8 : Keeps (fun b => b = v.bl) wb.drew w8 := (Keeps.refl _ _).grown hgr (fun k h => by cases h; rfl)
    have iv8 := iv7d.upLeft HF.out hL72 hk8 hm8 (fun l hl => if_neg hl) (fun u hu => by rw [if_pos rfl] at hu; rw [← Option.some.inj hu, ← HZ.out.1, ← HZ.out.2.1]; rfl) ⟨hn, by omega, by omega, HALL3.out.2.2.1⟩ ht HCAP.out (nOf_pre hpre7 HALL3.out.2.1)
    have hJ8 : J (fun b => E b ∨ (w.heap.size ≤ b ∧ b < w.heap.size + 2)) gs w8 := HX.out.own (HX.out.mono (HX.out.keeps hJ7 (Keeps.refl _ wb).drew) (fun b hb => hb.elim .inl (fun e => .inr (.inl e)))) iv8 (hk8.mono (fun i _ e => .inr (.inr e)))
    have x57 := iv7.tr.c5
    have f0 := hf7.c0; have f1 := hf7.c1; have f2 := hf7.c2; have f3 := hf7.c3
    have hkk : Keeps (fun b => (Mt v b ∨ M2 b) ∨ b = w3.heap.size + 1) wa w8 := (hk7.drew).trans (hk8.mono (fun i _ e => .inl (.inl (.inr (.inr e)))))
    have hbl : ∀ b, w.heap.size ≤ b → b ≠ v.bl := fun b hb e => by omega
    have c8 := c7.drew.keeps hk8 (hbl _ (by omega))
    have b8 := hb7.drew.keeps hk8 (hbl _ (by omega))
    have hr8 : VRow w8 (w.heap.size + 1) 10 27 (fun _ => .complex .f64 0 0) := ⟨(hk8.block _ hr7.lt (hbl _ (by omega))).trans hr7.heap⟩
    have l8 : w3.heap.size + 2 ≤ w8.heap.size := by have := hkk.size; omega
    have u0 : wb.cell? ⟨w3.heap.size + 1, 0, none⟩ = some (spV (Z 0)) := capBlk.at (had := Z) hb7 0 (by decide)
    have u1 : wb.cell? ⟨w3.heap.size + 1, 1, none⟩ = some (spV (Z 1)) := capBlk.at (had := Z) hb7 1 (by decide)
    have u2 : wb.cell? ⟨w3.heap.size + 1, 2, none⟩ = some (spV (Z 2)) := capBlk.at (had := Z) hb7 2 (by decide)
    have u3 : wb.cell? ⟨w3.heap.size + 1, 3, none⟩ = some (spV (Z 3)) := capBlk.at (had := Z) hb7 3 (by decide)
    have u4 : wb.cell? ⟨w3.heap.size + 1, 4, none⟩ = some (spV (Z 4)) := capBlk.at (had := Z) hb7 4 (by decide)
    have u5 : wb.cell? ⟨w3.heap.size + 1, 5, none⟩ = some (spV (Z 5)) := capBlk.at (had := Z) hb7 5 (by decide)
    have u6 : wb.cell? ⟨w3.heap.size + 1, 6, none⟩ = some (spV (Z 6)) := capBlk.at (had := Z) hb7 6 (by decide)
    have u7 : wb.cell? ⟨w3.heap.size + 1, 7, none⟩ = some (spV (Z 7)) := capBlk.at (had := Z) hb7 7 (by decide)
    have u8 : wb.cell? ⟨w3.heap.size + 1, 8, none⟩ = some (spV (Z 8)) := capBlk.at (had := Z) hb7 8 (by decide)
    have u9 : wb.cell? ⟨w3.heap.size + 1, 9, none⟩ = some (spV (Z 9)) := capBlk.at (had := Z) hb7 9 (by decide)
    have H8 := Lib.hid (And.intro c8 (And.intro b8 (And.intro hr8 (And.intro hJ8 (And.intro hkk hpre7)))))
    clear iv7 iv7d hL7 hL72 hm8 hgr hk8 iv8 hJ8 hJ7 hk7 hf7 c7 hr7 hb7 c8 b8 hr8 hkk hpre7 hbl
    go_wp2_with fail
    go_region
    have c8 := H8.out.1
    have b8 := H8.out.2.1
    obtain ⟨k0, k1, k2, k3, k4, k5, k6, k7, k8, k9⟩ := capBlk.ten (w := w8) (b := w.heap.size) (had := had) c8
    have z0 : w8.cell? ⟨w3.heap.size + 1, 0, none⟩ = some (spV (Z 0)) := capBlk.at (had := Z) b8 0 (by decide)
    have z1 : w8.cell? ⟨w3.heap.size + 1, 1, none⟩ = some (spV (Z 1)) := capBlk.at (had := Z) b8 1 (by decide)
    have z2 : w8.cell? ⟨w3.heap.size + 1, 2, none⟩ = some (spV (Z 2)) := capBlk.at (had := Z) b8 2 (by decide)
    have z3 : w8.cell? ⟨w3.heap.size + 1, 3, none⟩ = some (spV (Z 3)) := capBlk.at (had := Z) b8 3 (by decide)
    have z4 : w8.cell? ⟨w3.heap.size + 1, 4, none⟩ = some (spV (Z 4)) := capBlk.at (had := Z) b8 4 (by decide)
    have z5 : w8.cell? ⟨w3.heap.size + 1, 5, none⟩ = some (spV (Z 5)) := capBlk.at (had := Z) b8 5 (by decide)
    have z6 : w8.cell? ⟨w3.heap.size + 1, 6, none⟩ = some (spV (Z 6)) := capBlk.at (had := Z) b8 6 (by decide)
    have z7 : w8.cell? ⟨w3.heap.size + 1, 7, none⟩ = some (spV (Z 7)) := capBlk.at (had := Z) b8 7 (by decide)
    have z8 : w8.cell? ⟨w3.heap.size + 1, 8, none⟩ = some (spV (Z 8)) := capBlk.at (had := Z) b8 8 (by decide)
    have z9 : w8.cell? ⟨w3.heap.size + 1, 9, none⟩ = some (spV (Z 9)) := capBlk.at (had := Z) b8 9 (by decide)
    clear u0 u1 u2 u3 u4 u5 u6 u7 u8 u9 f0 f1 f2 f3 x57 c8 b8 hup
    have HOV := Lib.hid (fun w => over_c had Z (fun g a b e => by have := HZ.out.2.2.2 g a b e; omega) w)
    have hlv : (semT s t).leave p j had = overC had Z := by unfold Sem.leave; rw [← HZ.out.1, ← HZ.out.2.1, HEV.out]; rfl
    obtain ⟨Y, hY⟩ : ∃ Y, Y = overC had Z := ⟨_, rfl⟩
    rw [← hY] at HOV hlv
    have HOV2 := Lib.hid HOV.out
    unfold capV at HOV2
    have HLV := Lib.hid hlv
    clear HOV hlv hY
    go_wp2_with fail
    refine (HOV2.out _).mono ?_
    rintro e w9 ⟨rfl, hB9⟩
    have hr9 : VRow w9 (w.heap.size + 1) 10 27 (fun _ => .complex .f64 0 0) := H8.out.2.2.1.below hB9 H8.out.2.2.1.lt
    have hk9 : ∀ S, Keeps S w8 w9 := fun S => Keeps.of_below hB9
    clear hB9 k0 k1 k2 k3 k4 k5 k6 k7 k8 k9 z0 z1 z2 z3 z4 z5 z6 z7 z8 z9 HOV2
    have HK9 := Lib.hid hk9
    obtain ⟨r0, r1, r2, r3, r4, r5, r6, r7, r8, r9, f0, f1, f2, f3, f4, f5, f6, f7, f8, f9⟩ := hr9.rf10
    obtain ⟨s0, s1, s2, s3, s4, s5, s6, s7, s8, s9⟩ := st10 (w := w9) (b := w.heap.size + 1) hr9 Y
    have HKS := Lib.hid (kp10 (w := w9) (b := w.heap.size + 1) Y)
    have HSS := Lib.hid (And.intro s0 (And.intro s1 (And.intro s2 (And.intro s3 (And.intro s4 (And.intro s5 (And.intro s6 (And.intro s7 (And.intro s8 s9)))))))))
    clear hr9 s0 s1 s2 s3 s4 s5 s6 s7 s8 s9
    clear hk9
    go_wp2
    obtain ⟨s0, s1, s2, s3, s4, s5, s6, s7, s8, s9⟩ := HSS.out
    refine bodyPost_ret (v := .agg (cH Y)) (by simp [results, Tryz.results72, go_sem, s0, s1, s2, s3, s4, s5, s6, s7, s8, s9]) rfl ⟨gs, ?_, HALL3.out.1.trans H8.out.2.2.2.2.2, HX.out.mono (HX.out.keeps (HX.out.keeps H8.out.2.2.2.1 (HK9.out _)) (HKS.out.mono (fun i _ e => .inr (by subst e; omega)))) (fun b hb => .inl hb), ?_⟩
    ·rw [HLV.out]
    ·exact ((((HK2.out _).trans (HALL3.out.2.2.2.2.1.mono (fun i _ e => .inl (.inl e)))).trans (HXX.out.1 _)).trans2 (H8.out.2.2.2.2.1.trans (HK9.out _)) (fun i hi e => e.elim id (fun e => by omega))).trans2 HKS.out (fun i hi e => by omega)
end
end Go.Proofs.YtgllmhheahlpjaaGreatDoor
