/- A trial: leave where nothing is ever left; a look that tells all. -/
import Derived.Test.YtjgegohidhdbpaaGreatDoorJMcK
import Derived.Deep.CutBlock
open Go.Proofs.Tryz
set_option linter.unusedVariables false
set_option linter.unusedSimpArgs false
set_option maxRecDepth 100000
set_option maxHeartbeats 40000000
namespace Go.Proofs.YtjgegohidhdbpaaGreatDoor
open Go.RowKit Go.Maps Go.WideMaps
theorem jq.look_all {k : TypeId} {w : World} {b N : Nat} {code : Lit → Nat} {ok : Lit → Prop} {L : Lit → Option Value} (h : jq k w b code N ok L) (K : Keyed prog k) {t e : TypeId} (ht : Tryz.prog.underlying t = some (.map k e)) {z : Value} (hz : ∀ w, (zeroValue e).run prog w = .ok z w) {key : Value} {kl : Lit} (vD : keyOf prog k key = some kl) :
  (Instr.lookup t (.map (some b)) key true).run prog w = .ok (.tuple #[(L kl).getD z, .bool (L kl).isSome]) w := by
 obtain ⟨n, D, h1, h2⟩ := h.own
 obtain ⟨v, ps, kO, hv⟩ := h1.look_ok K ht (hz w) (zd := .held z) (zp := []) rfl vD
 obtain ⟨e1, e2⟩ := h2 kl (K.key vD)
 rw [kO, e1]
 cases hl : L kl with
 | some u =>
  rw [e2 u hl] at hv
  cases hv
  rfl
 | none =>
  rw [hl] at e1
  rw [atKey_of_not_has e1] at hv
  cases hv
  rfl
section
variable {X : Nat} {v : kU} {s : List UInt8} {xs : List Nd} {B : Nat} {c1 : Lit → Nat} {n1 : Nat} {P1 : Lit → Prop} {c2 : Lit → Nat} {n2 : Nat} {M2 : Nat → Prop} {J : (Nat → Prop) → List Lit → World → Prop}
theorem Gx (jx : JX X v s xs B c1 n1 P1 c2 n2 M2 J) (fx : Fx v s xs B P1) (n p j : Nat) (t : T) (hn : n < v.n) (ht : zT (fun i => xs[i]?) t n) (Xg : XP (qd s t).ever = true) : kX X v s M2 J n t p j := by
 intro had E es w qB hJ hE
 have iv := jx.iv hJ
 have XJ := fx.n2
 have qH : ∀ S, qb S w ((w.alloc (.cells (cH had) 27)).alloc (.cells cZ 27)) := fun S => ((qb.refl S w).alloc _).alloc _
 have iv2 := iv.keeps (qH _)
 have x2 := iv2.tr.c2
 have r2 := (iv2.role hn ht).c2
 rw [yi.2 Xg] at r2
 have hb := (qc w had).alloc (.cells cZ 27)
 have k_ := qc.ten (w := ((w.alloc (.cells (cH had) 27)).alloc (.cells cZ 27))) (b := w.heap.size) (had := had) hb
 have HX := ξ jx
 have HJ := ξ hJ
 have HEV := ξ Xg
 clear qH iv iv2 hb hJ jx Xg
 unfold qk
 go_enter func62, ntmps62
 go_wp2
 have hK : ∀ S, qb S w ((w.alloc (.cells (cH had) 27)).alloc (.cells (cH had) 27)) := fun S => ((qb.refl S w).alloc _).alloc _
 refine bodyPost_ret (v := .agg (cH had)) (by simp [results, results62, go_sem]) rfl ⟨es, ?_, List.prefix_refl _, HX.out.keeps HJ.out (hK _), hK _⟩
 unfold Sem.leave
 rw [if_pos HEV.out]
end
open Go.Proofs.YtjgegohidhdbpaaGreatDoor.Fl
def spx : Option (Nat × Nat) → Nat
 | none => qf
 | some (a, _) => floatOfInt .f64 (a : Int)
def spy : Option (Nat × Nat) → Nat
 | none => qf
 | some (_, b) => floatOfInt .f64 (b : Int)
theorem qeJ (o : Option (Nat × Nat)) : qj o = .complex .f64 (spx o) (spy o) := by
 cases o with
 | none => rfl
 | some p => obtain ⟨a, b⟩ := p; rfl
theorem GB : Tryz.prog.underlying 93 = some (.map 137 27) := underlying93
section
variable (X : Nat) (v : kU) (s : List UInt8) (M2 : Nat → Prop) (J : (Nat → Prop) → List Lit → World → Prop)
def WalkC (n : Nat) (t : T) (p j : Nat) : Prop := ∀ (had : Cp) (E : Nat → Prop) (es : List Lit) (w : World), qo s.length had → J E es w → (∀ b, E b → b < w.heap.size) →
 Calls prog 101 #[.pointer (some ⟨X, 0, none⟩), .int .i64 n, .int .i64 p, .int .i64 j, qk had] w fun e w' => ∃ fs : List Lit, e = .returned (qk ((qd s t).walk p j had)) ∧ es <+: fs ∧ J E fs w' ∧ qb (fun b => Mt v b ∨ M2 b) w w'
end
section
variable {X : Nat} {v : kU} {s : List UInt8} {xs : List Nd} {B : Nat} {c1 : Lit → Nat} {n1 : Nat} {P1 : Lit → Prop} {c2 : Lit → Nat} {n2 : Nat} {M2 : Nat → Prop} {J : (Nat → Prop) → List Lit → World → Prop}
theorem Gy (jx : JX X v s xs B c1 n1 P1 c2 n2 M2 J) (fx : Fx v s xs B P1) (n p j : Nat) (t : T) (hn : n < v.n) (hp : p ≤ j) (hj : j ≤ s.length) (ht : zT (fun i => xs[i]?) t n) (Xg : XP (qd s t).ever = false) (hW : WalkC X v s M2 J n t p j) : kX X v s M2 J n t p j := by
 intro had E es w qB hJ hE
 have iv := jx.iv hJ
 have XJ := fx.n2
 have jp := fx.sl
 have zj := fx.B2
 have qQ := fx.B3
 obtain ⟨lX, llb, lrb, lbn, lbr, lbl, lw⟩ := iv.lts
 have hmx := iv.nums.max
 have emx : maxLen = 9223372036854775807 := by decide
 rw [emx] at hmx
 have ZD := ξ (fun b hb => (jx.lt hJ b hb).1)
 have qH : ∀ S, qb S w ((w.alloc (.cells (cH had) 27)).alloc (.cells cZ 27)) := fun S => ((qb.refl S w).alloc _).alloc _
 have Qm : ((w.alloc (.cells (cH had) 27)).alloc (.cells cZ 27)).heap.size = w.heap.size + 2 := by simp
 have vV : J (fun b => E b ∨ (w.heap.size ≤ b ∧ b < w.heap.size + 2)) es ((w.alloc (.cells (cH had) 27)).alloc (.cells cZ 27)) := jx.mono (jx.keeps (jx.fresh hJ) (qH _)) (fun b hb => hb.imp id (fun e => e.1))
 have iv2 := jx.iv vV
 have x2 := iv2.tr.c2
 have r2 := (iv2.role hn ht).c2
 have hz : ((gw (qd s t).ever : Int) == 0) = false := by
  rw [beq_eq_false_iff_ne]
  intro e
  have := yi.1 (by omega : gw (qd s t).ever = 0)
  rw [Xg] at this; cases this
 have hb := (qc w had).alloc (.cells cZ 27)
 have k_ := qc.ten (w := ((w.alloc (.cells (cH had) 27)).alloc (.cells cZ 27))) (b := w.heap.size) (had := had) hb
 have Y9 : qm ((w.alloc (.cells (cH had) 27)).alloc (.cells cZ 27)) (w.heap.size + 1) 10 27 (fun _ => .complex .f64 0 0) := by
  have := qm.new (w.alloc (.cells (cH had) 27)) 10 27 (fun _ => .complex .f64 0 0)
  rw [World.size_alloc] at this
  exact this
 have Kp := Yb fx n p j t had hn ht qB ((w.alloc (.cells (cH had) 27)).alloc (.cells cZ 27)) iv2 (fun b hb => by
  rw [Qm]
  rcases hb with (hb | hb) | hb
  ·have := hE b hb; omega
  ·omega
  ·have := ZD.out b hb; omega) iv2.out.2.2.2.1
 unfold qk at Kp
 have VP := ξ Kp
 have HX := ξ jx
 have HF := ξ fx
 have HE := ξ hE
 have ZA := ξ vV
 have HEV := ξ Xg
 have Qe := ξ qB
 have HW := ξ hW
 have yg := ξ qH
 have jk := ξ (ζ hb Y9)
 generalize gw (qd s t).ever = gE at *
 clear qH iv iv2 hb hJ vV jx Xg qB hW hE fx emx Kp Y9
 unfold qk
 go_enter func62, ntmps62
 go_wp2_with fail
 refine VP.out.mono ?_
 rintro e w3 ⟨fs, q, rfl, qJ, qdD, hq, iv3, zl⟩
 have lsz3 := zl.size
 have vw := HX.out.own ZA.out iv3 (zl.mono (fun i _ e => .inl e))
 have vO := jk.out.1.keeps zl (by omega)
 have kH : qm w3 (w.heap.size + 1) 10 27 (fun _ => .complex .f64 0 0) := ⟨(zl.block _ jk.out.2.lt (by omega)).trans jk.out.2.heap⟩
 obtain ⟨L, hL3, hL23⟩ := iv3.left
 have ks : ∀ S, qb S w3 ((w3.alloc (.cells #[.int .i64 n, .int .i64 p, .int .i64 j, .int .i64 q] 137)).alloc (.cells cZ 27)).drew := fun S => (((qb.refl S w3).alloc _).alloc _).drew
 have iv4 := iv3.keeps (ks _)
 have hkc : ∀ S, qb S w3 (w3.alloc (.cells #[.int .i64 n, .int .i64 p, .int .i64 j, .int .i64 q] 137)).drew := fun S => ((qb.refl S w3).alloc _).drew
 have iv5 := iv3.keeps (hkc _)
 have hL := hL3.of_heap ((ks (fun _ => False)).block _ hL3.blt id)
 have hLc := hL3.of_heap ((hkc (fun _ => False)).block _ hL3.blt id)
 have vD := yh (a := n) (b := p) (c := j) (d := q) (zH (by omega)) (zH (by omega)) (zH (by omega)) (zH (by omega))
 have Qk := hL.look_all jQ GB (z := .agg cZ) (by intro w; kernel_rfl) vD
 have GC := hLc.look_all jQ GB (z := .agg cZ) (by intro w; kernel_rfl) vD
 have x5 := iv4.tr.c5
 have x5c := iv5.tr.c5
 have Wi := (Four.new w3 137 (.int .i64 n) (.int .i64 p) (.int .i64 j) (.int .i64 q))
 have h0 := Wi.c0; have h1 := Wi.c1; have h2 := Wi.c2; have h3 := Wi.c3
 have Ql := ((Four.new w3 137 (.int .i64 n) (.int .i64 p) (.int .i64 j) (.int .i64 q)).alloc (.cells cZ 27)).drew
 have f0 := Ql.c0; have f1 := Ql.c1; have f2 := Ql.c2; have f3 := Ql.c3
 have vj := ξ (ζ qJ (ζ qdD (ζ hq (ζ iv3 (ζ zl (ζ vw (ζ vO (ζ kH vD))))))))
 have HL2 := ξ hL23
 have qmc : ∃ ua ub : Nat → Nat, (L (Jm n p j q)).getD (.agg cZ) = .agg #[.complex .f64 (ua 0) (ub 0), .complex .f64 (ua 1) (ub 1), .complex .f64 (ua 2) (ub 2), .complex .f64 (ua 3) (ub 3), .complex .f64 (ua 4) (ub 4), .complex .f64 (ua 5) (ub 5), .complex .f64 (ua 6) (ub 6), .complex .f64 (ua 7) (ub 7), .complex .f64 (ua 8) (ub 8), .complex .f64 (ua 9) (ub 9)] ∧ (∀ u, L (Jm n p j q) = some u → ∃ (t' : T) (qw : Cp), zT (fun i => xs[i]?) t' n ∧ qo s.length qw ∧ nOf fs (qd s t').asked qw = some q ∧ ∀ i, i < 10 → Value.complex .f64 (ua i) (ub i) = qj ((qd s t').walk p j (qP qw (qd s t').asked) i)) := by
  cases hLk : L (Jm n p j q) with
  | some u =>
   obtain ⟨t', qw, hs', kZ, qbi, rfl⟩ := HL2.out n p j q u ⟨hn, by omega, by omega, vj.out.2.2.1⟩ hLk
   exact ⟨fun i => spx ((qd s t').walk p j (qP qw (qd s t').asked) i), fun i => spy ((qd s t').walk p j (qP qw (qd s t').asked) i), by unfold qk; simp only [Option.getD_some, qeJ], fun u hu => ⟨t', qw, hs', kZ, qbi, fun i hi => (qeJ _).symm⟩⟩
  | none => exact ⟨fun _ => 0, fun _ => 0, rfl, fun u hu => by cases hu⟩
 obtain ⟨ua, ub, hU1, hU2⟩ := qmc
 rw [hU1] at Qk GC
 obtain ⟨is, his⟩ : ∃ is, is = (L (Jm n p j q)).isSome := ⟨_, rfl⟩
 rw [← his] at Qk GC
 have HU := ξ (ζ hU2 his)
 clear qJ qdD iv3 zl vw vO kH ks iv4 hL hL3 hL23 hLc hkc iv5 Wi vD Ql VP hU1 hU2 his k_
 go_upto_region 4 with fail
 go_cut [12, 13] from 14 (fun ov bv wx => ov = .pointer (some ⟨w3.heap.size + 1, 0, none⟩) ∧ bv = .bool is ∧ (∀ S, qb S w3 wx) ∧ Four wx w3.heap.size 137 (.int .i64 n) (.int .i64 p) (.int .i64 j) (.int .i64 q) ∧ qm wx (w3.heap.size + 1) 10 27 (fun i => .complex .f64 (ua i) (ub i)))
 case first =>
  go_wp2_with fail
  go_region
  all_goals (
   (try go_wp2_with fail)
   go_meet
   refine ⟨rfl, rfl, fun S => (((qb.refl S w3).alloc _).alloc _).drew, ((Four.new w3 137 (.int .i64 n) (.int .i64 p) (.int .i64 j) (.int .i64 q)).alloc _).drew, ?_⟩
   have := (qm.new (w3.alloc (.cells #[.int .i64 n, .int .i64 p, .int .i64 j, .int .i64 q] 137)) 10 27 (fun i => .complex .f64 (ua i) (ub i))).drew
   rw [World.size_alloc] at this
   exact this)
 case rest =>
  obtain ⟨rfl, rfl, hkx, yN, hux⟩ := hcut
  clear Qk GC x5 x5c h0 h1 h2 h3 f0 f1 f2 f3
  have ZC := vj.out.2.2.2.2.2.2.1.keeps (hkx (fun _ => False)) id
  have hrx : qm wc (w.heap.size + 1) 10 27 (fun _ => .complex .f64 0 0) := ⟨((hkx (fun _ => False)).block _ vj.out.2.2.2.2.2.2.2.1.lt id).trans vj.out.2.2.2.2.2.2.2.1.heap⟩
  have lx : w3.heap.size + 2 ≤ wc.heap.size := by have := hux.lt; omega
  have k_ := qc.ten (w := wc) (b := w.heap.size) (had := had) ZC
  have KM := ξ (ζ hkx (ζ yN (ζ hux (ζ ZC hrx))))
  clear hkx yN ZC hrx
  cases hLk : L (Jm n p j q) with
  | some u =>
   obtain ⟨t', qw, hs', kZ, qbi, hUz⟩ := HU.out.1 u hLk
   obtain rfl : true = is := by rw [HU.out.2, hLk]; rfl
   obtain rfl := va t' t n hs' ht
   have vb := vd (WH (HF.out.ok n t' hn ht).2.1 Qe.out kZ (by omega) vj.out.2.1 qbi)
   rw [← vb] at hUz
   obtain ⟨Z, hZ⟩ : ∃ Z, Z = (qd s t').walk p j (qP had (qd s t').asked) := ⟨_, rfl⟩
   rw [← hZ] at hUz
   have u0 : wc.cell? ⟨w3.heap.size + 1, 0, none⟩ = some (qj (Z 0)) := by rw [hux.cell 0 (by decide), hUz 0 (by decide)]
   have u1 : wc.cell? ⟨w3.heap.size + 1, 1, none⟩ = some (qj (Z 1)) := by rw [hux.cell 1 (by decide), hUz 1 (by decide)]
   have u2 : wc.cell? ⟨w3.heap.size + 1, 2, none⟩ = some (qj (Z 2)) := by rw [hux.cell 2 (by decide), hUz 2 (by decide)]
   have u3 : wc.cell? ⟨w3.heap.size + 1, 3, none⟩ = some (qj (Z 3)) := by rw [hux.cell 3 (by decide), hUz 3 (by decide)]
   have u4 : wc.cell? ⟨w3.heap.size + 1, 4, none⟩ = some (qj (Z 4)) := by rw [hux.cell 4 (by decide), hUz 4 (by decide)]
   have u5 : wc.cell? ⟨w3.heap.size + 1, 5, none⟩ = some (qj (Z 5)) := by rw [hux.cell 5 (by decide), hUz 5 (by decide)]
   have u6 : wc.cell? ⟨w3.heap.size + 1, 6, none⟩ = some (qj (Z 6)) := by rw [hux.cell 6 (by decide), hUz 6 (by decide)]
   have u7 : wc.cell? ⟨w3.heap.size + 1, 7, none⟩ = some (qj (Z 7)) := by rw [hux.cell 7 (by decide), hUz 7 (by decide)]
   have u8 : wc.cell? ⟨w3.heap.size + 1, 8, none⟩ = some (qj (Z 8)) := by rw [hux.cell 8 (by decide), hUz 8 (by decide)]
   have u9 : wc.cell? ⟨w3.heap.size + 1, 9, none⟩ = some (qj (Z 9)) := by rw [hux.cell 9 (by decide), hUz 9 (by decide)]
   have hcz : qo s.length Z := by rw [hZ]; exact (HF.out.ok n t' hn ht).2.1.cap p j _ (Qe.out.only _) hp hj
   have HOV := ξ (fun w => qd0 had Z (fun g a b e => by have := hcz g a b e; omega) w)
   have hlv : (qd s t').leave p j had = zx had Z := by unfold Sem.leave; rw [hZ, HEV.out]; rfl
   obtain ⟨Y, hY⟩ : ∃ Y, Y = zx had Z := ⟨_, rfl⟩
   rw [← hY] at HOV hlv
   have GD := ξ HOV.out
   unfold qk at GD
   have HLV := ξ hlv
   clear hLk hs' kZ qbi vb hUz hZ hcz HOV hlv hY hux
   go_wp2_with fail
   refine (GD.out _).mono ?_
   rintro e w6 ⟨rfl, jY⟩
   have YA : qm w6 (w.heap.size + 1) 10 27 (fun _ => .complex .f64 0 0) := KM.out.2.2.2.2.below jY KM.out.2.2.2.2.lt
   have Q9 : ∀ S, qb S w3 w6 := fun S => (KM.out.1 S).trans (qb.of_below jY)
   clear jY u0 u1 u2 u3 u4 u5 u6 u7 u8 u9 k_ GD
   have HK6 := ξ Q9
   obtain ⟨r0, r1, r2, r3, r4, r5, r6, r7, r8, r9, f0, f1, f2, f3, f4, f5, f6, f7, f8, f9⟩ := YA.rf10
   have zI := ξ (kn (w := w6) (b := w.heap.size + 1) Y)
   have za := ξ (qV (w := w6) (b := w.heap.size + 1) YA Y)
   clear YA
   clear Q9
   go_wp2
   refine bodyPost_ret (v := .agg (cH Y)) (by simp [results, results62, go_sem, za.out]) rfl ⟨fs, ?_, vj.out.1, HX.out.mono (HX.out.keeps (HX.out.keeps vj.out.2.2.2.2.2.1 (HK6.out _)) (zI.out.mono (fun i _ e => .inr (by subst e; omega)))) (fun b hb => .inl hb), ?_⟩
   ·rw [HLV.out]
   ·exact ((((yg.out _).trans (vj.out.2.2.2.2.1.mono (fun i _ e => .inl (.inl e)))).trans (HK6.out _))).trans2 zI.out (fun i hi e => by omega)
  | none =>
   obtain rfl : false = is := by rw [HU.out.2, hLk]; rfl
   obtain ⟨wa, rfl⟩ : ∃ wa, wa = wc := ⟨_, rfl⟩
   obtain ⟨Y0, hY0⟩ : ∃ Y0, Y0 = qP had (qd s t).asked := ⟨_, rfl⟩
   obtain ⟨Z, hZ⟩ : ∃ Z, Z = (qd s t).walk p j Y0 := ⟨_, rfl⟩
   have hc0 : qo s.length Y0 := by rw [hY0]; exact Qe.out.only _
   have hcz : qo s.length Z := by rw [hZ]; exact (HF.out.ok n t hn ht).2.1.cap p j _ hc0 hp hj
   have hJa : J (fun b => E b ∨ (w.heap.size ≤ b ∧ b < w.heap.size + 2) ∨ (w3.heap.size ≤ b ∧ b < w3.heap.size + 2)) fs wa := HX.out.mono (HX.out.keeps (HX.out.fresh vj.out.2.2.2.2.2.1) (KM.out.1 _)) (fun b hb => by
    rcases hb with hb | hb | hb
    ·exact .inl (.inl hb)
    ·exact .inl (.inr hb)
    ·exact .inr hb.1)
   have hEa : ∀ b, (E b ∨ (w.heap.size ≤ b ∧ b < w.heap.size + 2) ∨ (w3.heap.size ≤ b ∧ b < w3.heap.size + 2)) → b < wa.heap.size := fun b hb => by
    have l1 : w.heap.size + 2 ≤ w3.heap.size := by have := vj.out.2.2.2.2.1.size; rw [Qm] at this; exact this
    rcases hb with hb | hb | hb
    ·have := HE.out b hb; omega
    ·omega
    ·omega
   have kz : ∀ b, w.heap.size ≤ b → ¬ (Mt v b ∨ M2 b) := fun b hb e => by
    rcases e with e | e
    ·rcases e with e | e | e <;> omega
    ·have := ZD.out b e; omega
   have HJA := ξ (ζ hJa hEa)
   have kD := ξ kz
   have hon := fun w => qi8 had (qd s t).asked w
   rw [← hY0] at hon
   unfold qk at hon
   have HON := ξ hon
   have HZ := ξ (ζ hY0 (ζ hZ (ζ hc0 hcz)))
   have hJd := HX.out.keeps hJa (qb.refl _ wa).drew
   have VO := (HX.out.iv hJd).role hn ht
   have hta := (HX.out.iv hJd).tr
   have hl31 : w.heap.size + 2 ≤ w3.heap.size := by have := vj.out.2.2.2.2.1.size; rw [Qm] at this; exact this
   have HRA := ξ (ζ hta VO)
   obtain ⟨gA, hgA⟩ : ∃ gA, gA = gw (qd s t).asked := ⟨_, rfl⟩
   rw [← hgA] at hon HON
   have HGA := ξ hgA
   clear hLk hJa hJd hEa kz hon hc0 hcz hY0 hZ hux VO hta k_ hgA Qm
   go_upto_region 6 with fail
   go_cut [13] from 14 (fun bv wx => ∃ gs : List Lit, bv = .bool false ∧ fs <+: gs ∧ J (fun b => E b ∨ (w.heap.size ≤ b ∧ b < w.heap.size + 2) ∨ (w3.heap.size ≤ b ∧ b < w3.heap.size + 2)) gs wx ∧ qb (fun b => (Mt v b ∨ M2 b) ∨ b = w3.heap.size + 1) wa wx ∧ zG wx (w3.heap.size + 1) (cH Z) 27)
   case first =>
    go_wp2_with fail
    refine wp_region_noPanic ?_
    refine wp_region_held_drew (S := fun w' => zG w' w.heap.size (cH had) 27 ∧ km w' X v s ∧ Xm w' v.rb n (qd s t)) (by kernel_rfl) ?_ (fun qe => ?_)
    ·(try dsimp only); exact ⟨KM.out.2.2.2.1.drew, HRA.out.1, HRA.out.2⟩
    refine tq 0 ?_ (hy := by (intro wq qi; obtain ⟨sb, st, sr⟩ := qi; have x2 := st.c2; have r0 := sr.c0; rw [← HGA.out] at r0; have e_ := qc.ten (w := wq) (b := w.heap.size) (had := had) sb; go_simp); (try rfl))
    refine tq 1 ?_ (hy := by (intro wq qi; obtain ⟨sb, st, sr⟩ := qi; have x2 := st.c2; have r0 := sr.c0; rw [← HGA.out] at r0; have e_ := qc.ten (w := wq) (b := w.heap.size) (had := had) sb; go_simp); (try rfl))
    refine tq 2 ?_ (hy := by (intro wq qi; obtain ⟨sb, st, sr⟩ := qi; have x2 := st.c2; have r0 := sr.c0; rw [← HGA.out] at r0; have e_ := qc.ten (w := wq) (b := w.heap.size) (had := had) sb; go_simp); (try rfl))
    refine tq 3 ?_ (hy := by (intro wq qi; obtain ⟨sb, st, sr⟩ := qi; have x2 := st.c2; have r0 := sr.c0; rw [← HGA.out] at r0; have e_ := qc.ten (w := wq) (b := w.heap.size) (had := had) sb; go_simp); (try rfl))
    refine tq 4 ?_ (hy := by (intro wq qi; obtain ⟨sb, st, sr⟩ := qi; have x2 := st.c2; have r0 := sr.c0; rw [← HGA.out] at r0; have e_ := qc.ten (w := wq) (b := w.heap.size) (had := had) sb; go_simp); (try rfl))
    refine tq 5 ?_ (hy := by (intro wq qi; obtain ⟨sb, st, sr⟩ := qi; have x2 := st.c2; have r0 := sr.c0; rw [← HGA.out] at r0; have e_ := qc.ten (w := wq) (b := w.heap.size) (had := had) sb; go_simp); (try rfl))
    refine tq 6 ?_ (hy := by (intro wq qi; obtain ⟨sb, st, sr⟩ := qi; have x2 := st.c2; have r0 := sr.c0; rw [← HGA.out] at r0; have e_ := qc.ten (w := wq) (b := w.heap.size) (had := had) sb; go_simp); (try rfl))
    refine tq 7 ?_ (hy := by (intro wq qi; obtain ⟨sb, st, sr⟩ := qi; have x2 := st.c2; have r0 := sr.c0; rw [← HGA.out] at r0; have e_ := qc.ten (w := wq) (b := w.heap.size) (had := had) sb; go_simp); (try rfl))
    refine tq 8 ?_ (hy := by (intro wq qi; obtain ⟨sb, st, sr⟩ := qi; have x2 := st.c2; have r0 := sr.c0; rw [← HGA.out] at r0; have e_ := qc.ten (w := wq) (b := w.heap.size) (had := had) sb; go_simp); (try rfl))
    refine tq 9 ?_ (hy := by (intro wq qi; obtain ⟨sb, st, sr⟩ := qi; have x2 := st.c2; have r0 := sr.c0; rw [← HGA.out] at r0; have e_ := qc.ten (w := wq) (b := w.heap.size) (had := had) sb; go_simp); (try rfl))
    refine tq 10 ?_ (hy := by (intro wq qi; obtain ⟨sb, st, sr⟩ := qi; have x2 := st.c2; have r0 := sr.c0; rw [← HGA.out] at r0; have e_ := qc.ten (w := wq) (b := w.heap.size) (had := had) sb; go_simp); (try rfl))
    refine tq 11 ?_ (hy := by (intro wq qi; obtain ⟨sb, st, sr⟩ := qi; have x2 := st.c2; have r0 := sr.c0; rw [← HGA.out] at r0; have e_ := qc.ten (w := wq) (b := w.heap.size) (had := had) sb; go_simp); (try rfl))
    refine tq 12 ?_ (hy := by (intro wq qi; obtain ⟨sb, st, sr⟩ := qi; have x2 := st.c2; have r0 := sr.c0; rw [← HGA.out] at r0; have e_ := qc.ten (w := wq) (b := w.heap.size) (had := had) sb; go_simp); (try rfl))
    refine zU 13 fun K hK => ?_
    go_simp
    refine (HON.out _).mono ?_
    rintro e wN ⟨rfl, GW⟩
    have hkN : ∀ S, qb S wa wN := fun S => (qb.refl S wa).drew.trans (qb.of_below GW)
    have hJN := HX.out.keeps HJA.out.1 (hkN _)
    have HKN := ξ (ζ hkN hJN)
    clear GW hkN hJN
    refine hK.out _ _ ?_ (fun qe => ?_)
    ·(try dsimp only); exact ⟨KM.out.2.2.2.1.keeps (HKN.out.1 (fun _ => False)) id, (HX.out.iv HKN.out.2).tr, (HX.out.iv HKN.out.2).role hn ht⟩
    clear hK K
    try simp only [Act.put, zm]
    refine zU 14 fun K hK => ?_
    go_simp
    have qh := HW.out Y0 _ fs wN HZ.out.2.2.1 HKN.out.2 (fun b hb => Nat.lt_of_lt_of_le (HJA.out.2 b hb) (HKN.out.1 (fun _ => False)).size)
    rw [← HZ.out.2.1] at qh
    unfold qk at qh
    refine qh.mono ?_
    rintro e w6 ⟨gs, rfl, yl, K2, Q9⟩
    have jC : qb (fun b => Mt v b ∨ M2 b) wa w6 := (HKN.out.1 _).trans Q9
    have XR := KM.out.2.2.2.1.keeps jC (kD.out _ (by omega))
    have YA : qm w6 (w3.heap.size + 1) 10 27 (fun i => .complex .f64 (ua i) (ub i)) := ⟨(jC.block _ KM.out.2.2.1.lt (kD.out _ (by omega))).trans KM.out.2.2.1.heap⟩
    have H6 := ξ (ζ yl (ζ K2 (ζ jC XR)))
    clear qh yl K2 Q9 jC XR
    refine hK.out _ _ ?_ (fun qe => ?_)
    ·(try dsimp only); exact ⟨H6.out.2.2.2, (HX.out.iv H6.out.2.1).tr, (HX.out.iv H6.out.2.1).role hn ht⟩
    clear hK K
    try simp only [Act.put, zm]
    obtain ⟨r0, r1, r2, r3, r4, r5, r6, r7, r8, r9, f0, f1, f2, f3, f4, f5, f6, f7, f8, f9⟩ := YA.rf10
    have v0 := YA.set 0 (qj (Z 0))
    have s0 : (sC1 w6 (w3.heap.size + 1) Z).cell? ⟨w3.heap.size + 1, 0, none⟩ = some (qj (Z 0)) := by rw [v0.cell 0 (by decide)]; simp
    have v1 := v0.set 1 (qj (Z 1))
    have s1 : (sC2 w6 (w3.heap.size + 1) Z).cell? ⟨w3.heap.size + 1, 1, none⟩ = some (qj (Z 1)) := by rw [v1.cell 1 (by decide)]; simp
    have v2 := v1.set 2 (qj (Z 2))
    have s2 : (sC3 w6 (w3.heap.size + 1) Z).cell? ⟨w3.heap.size + 1, 2, none⟩ = some (qj (Z 2)) := by rw [v2.cell 2 (by decide)]; simp
    have v3 := v2.set 3 (qj (Z 3))
    have s3 : (sC4 w6 (w3.heap.size + 1) Z).cell? ⟨w3.heap.size + 1, 3, none⟩ = some (qj (Z 3)) := by rw [v3.cell 3 (by decide)]; simp
    have v4 := v3.set 4 (qj (Z 4))
    have s4 : (sC5 w6 (w3.heap.size + 1) Z).cell? ⟨w3.heap.size + 1, 4, none⟩ = some (qj (Z 4)) := by rw [v4.cell 4 (by decide)]; simp
    have v5 := v4.set 5 (qj (Z 5))
    have s5 : (sC6 w6 (w3.heap.size + 1) Z).cell? ⟨w3.heap.size + 1, 5, none⟩ = some (qj (Z 5)) := by rw [v5.cell 5 (by decide)]; simp
    have v6 := v5.set 6 (qj (Z 6))
    have s6 : (sC7 w6 (w3.heap.size + 1) Z).cell? ⟨w3.heap.size + 1, 6, none⟩ = some (qj (Z 6)) := by rw [v6.cell 6 (by decide)]; simp
    have v7 := v6.set 7 (qj (Z 7))
    have s7 : (sC8 w6 (w3.heap.size + 1) Z).cell? ⟨w3.heap.size + 1, 7, none⟩ = some (qj (Z 7)) := by rw [v7.cell 7 (by decide)]; simp
    have v8 := v7.set 8 (qj (Z 8))
    have s8 : (sC9 w6 (w3.heap.size + 1) Z).cell? ⟨w3.heap.size + 1, 8, none⟩ = some (qj (Z 8)) := by rw [v8.cell 8 (by decide)]; simp
    have v9 := v8.set 9 (qj (Z 9))
    have s9 : (UV w6 (w3.heap.size + 1) Z).cell? ⟨w3.heap.size + 1, 9, none⟩ = some (qj (Z 9)) := by rw [v9.cell 9 (by decide)]; simp
    have zI := ξ (kn (w := w6) (b := w3.heap.size + 1) Z)
    have za := ξ (ζ s0 (ζ s1 (ζ s2 (ζ s3 (ζ s4 (ζ s5 (ζ s6 (ζ s7 (ζ s8 s9)))))))))
    have hbz : zG _ (w3.heap.size + 1) (cH Z) 27 := ⟨by rw [v9.heap]; rfl⟩
    clear YA v0 v1 v2 v3 v4 v5 v6 v7 v8 v9 s0 s1 s2 s3 s4 s5 s6 s7 s8 s9
    refine zU 15 fun K hK => ?_
    have Qc := zI.out
    have hJ7 := HX.out.keeps H6.out.2.1 (Qc.mono (fun i _ e => .inr (.inr (by subst e; omega))))
    have H7 := ξ (ζ hJ7 (ζ Qc hbz))
    clear hJ7 Qc hbz
    go_simp
    refine hK.out _ _ ?_ (fun qe => ?_)
    ·(try dsimp only); exact ⟨H6.out.2.2.2.keeps H7.out.2.1 (by omega), (HX.out.iv H7.out.1).tr, (HX.out.iv H7.out.1).role hn ht⟩
    clear hK K
    try simp only [Act.put, zm]
    refine wpAnyH_done (by kernel_rfl) ?_ _
    refine NoPanic.normal ?_
    go_step
    go_step
    go_meet
    exact ⟨gs, rfl, H6.out.1, H7.out.1, (H6.out.2.2.1.mono (fun i _ e => .inl e)).trans (H7.out.2.1.mono (fun i _ e => .inr e)), H7.out.2.2⟩
   case rest =>
    obtain ⟨gs, rfl, qeK, hJ7, hk7, hb7⟩ := hcut
    obtain ⟨wb, rfl⟩ : ∃ wb, wb = wc := ⟨_, rfl⟩
    have hf7 : Four wb w3.heap.size 137 (.int .i64 n) (.int .i64 p) (.int .i64 j) (.int .i64 q) := ⟨(hk7.block _ KM.out.2.1.lt (fun e => e.elim (kD.out _ (by omega)) (by omega))).trans KM.out.2.1.heap⟩
    have c7 := KM.out.2.2.2.1.keeps hk7 (fun e => e.elim (kD.out _ (by omega)) (by omega))
    have hr7 : qm wb (w.heap.size + 1) 10 27 (fun _ => .complex .f64 0 0) := ⟨(hk7.block _ KM.out.2.2.2.2.lt (fun e => e.elim (kD.out _ (by omega)) (by omega))).trans KM.out.2.2.2.2.heap⟩
    have iv7 := (HX.out.iv hJ7).mono (E' := fun b => (E b ∨ (w.heap.size ≤ b ∧ b < w.heap.size + 2)) ∨ M2 b) (fun b hb => by
     rcases hb with (hb | hb) | hb
     ·exact .inl (.inl hb)
     ·exact .inl (.inr (.inl hb))
     ·exact .inr hb)
    have iv7d := iv7.keeps ((qb.refl _ wb).drew)
    obtain ⟨L7, hL7, hL72⟩ := iv7d.left
    obtain ⟨w8, hup, hm8, QD⟩ := hL7.update jQ GB (val := .agg (cH Z)) vj.out.2.2.2.2.2.2.2.2 ⟨n, p, j, q, hn, by omega, by omega, vj.out.2.2.1, rfl⟩
    have Qv : qb (fun b => b = v.bl) wb.drew w8 := (qb.refl _ _).grown QD (fun k h => by cases h; rfl)
    have iv8 := iv7d.upLeft HF.out hL72 Qv hm8 (fun l hl => if_neg hl) (fun u hu => by rw [if_pos rfl] at hu; rw [← Option.some.inj hu, ← HZ.out.1, ← HZ.out.2.1]; rfl) ⟨hn, by omega, by omega, vj.out.2.2.1⟩ ht Qe.out (Jn qeK vj.out.2.1)
    have ZI : J (fun b => E b ∨ (w.heap.size ≤ b ∧ b < w.heap.size + 2)) gs w8 := HX.out.own (HX.out.mono (HX.out.keeps hJ7 (qb.refl _ wb).drew) (fun b hb => hb.elim .inl (fun e => .inr (.inl e)))) iv8 (Qv.mono (fun i _ e => .inr (.inr e)))
    have x57 := iv7.tr.c5
    have f0 := hf7.c0; have f1 := hf7.c1; have f2 := hf7.c2; have f3 := hf7.c3
    have hkk : qb (fun b => (Mt v b ∨ M2 b) ∨ b = w3.heap.size + 1) wa w8 := (hk7.drew).trans (Qv.mono (fun i _ e => .inl (.inl (.inr (.inr e)))))
    have hbl : ∀ b, w.heap.size ≤ b → b ≠ v.bl := fun b hb e => by omega
    have c8 := c7.drew.keeps Qv (hbl _ (by omega))
    have b8 := hb7.drew.keeps Qv (hbl _ (by omega))
    have Vf : qm w8 (w.heap.size + 1) 10 27 (fun _ => .complex .f64 0 0) := ⟨(Qv.block _ hr7.lt (hbl _ (by omega))).trans hr7.heap⟩
    have l8 : w3.heap.size + 2 ≤ w8.heap.size := by have := hkk.size; omega
    have u0 : wb.cell? ⟨w3.heap.size + 1, 0, none⟩ = some (qj (Z 0)) := qc.at (had := Z) hb7 0 (by decide)
    have u1 : wb.cell? ⟨w3.heap.size + 1, 1, none⟩ = some (qj (Z 1)) := qc.at (had := Z) hb7 1 (by decide)
    have u2 : wb.cell? ⟨w3.heap.size + 1, 2, none⟩ = some (qj (Z 2)) := qc.at (had := Z) hb7 2 (by decide)
    have u3 : wb.cell? ⟨w3.heap.size + 1, 3, none⟩ = some (qj (Z 3)) := qc.at (had := Z) hb7 3 (by decide)
    have u4 : wb.cell? ⟨w3.heap.size + 1, 4, none⟩ = some (qj (Z 4)) := qc.at (had := Z) hb7 4 (by decide)
    have u5 : wb.cell? ⟨w3.heap.size + 1, 5, none⟩ = some (qj (Z 5)) := qc.at (had := Z) hb7 5 (by decide)
    have u6 : wb.cell? ⟨w3.heap.size + 1, 6, none⟩ = some (qj (Z 6)) := qc.at (had := Z) hb7 6 (by decide)
    have u7 : wb.cell? ⟨w3.heap.size + 1, 7, none⟩ = some (qj (Z 7)) := qc.at (had := Z) hb7 7 (by decide)
    have u8 : wb.cell? ⟨w3.heap.size + 1, 8, none⟩ = some (qj (Z 8)) := qc.at (had := Z) hb7 8 (by decide)
    have u9 : wb.cell? ⟨w3.heap.size + 1, 9, none⟩ = some (qj (Z 9)) := qc.at (had := Z) hb7 9 (by decide)
    have H8 := ξ (ζ c8 (ζ b8 (ζ Vf (ζ ZI (ζ hkk qeK)))))
    clear iv7 iv7d hL7 hL72 hm8 QD Qv iv8 ZI hJ7 hk7 hf7 c7 hr7 hb7 c8 b8 Vf hkk qeK hbl
    go_wp2_with fail
    go_region
    have c8 := H8.out.1
    have b8 := H8.out.2.1
    have k_ := qc.ten (w := w8) (b := w.heap.size) (had := had) c8
    have z0 : w8.cell? ⟨w3.heap.size + 1, 0, none⟩ = some (qj (Z 0)) := qc.at (had := Z) b8 0 (by decide)
    have z1 : w8.cell? ⟨w3.heap.size + 1, 1, none⟩ = some (qj (Z 1)) := qc.at (had := Z) b8 1 (by decide)
    have z2 : w8.cell? ⟨w3.heap.size + 1, 2, none⟩ = some (qj (Z 2)) := qc.at (had := Z) b8 2 (by decide)
    have z3 : w8.cell? ⟨w3.heap.size + 1, 3, none⟩ = some (qj (Z 3)) := qc.at (had := Z) b8 3 (by decide)
    have z4 : w8.cell? ⟨w3.heap.size + 1, 4, none⟩ = some (qj (Z 4)) := qc.at (had := Z) b8 4 (by decide)
    have z5 : w8.cell? ⟨w3.heap.size + 1, 5, none⟩ = some (qj (Z 5)) := qc.at (had := Z) b8 5 (by decide)
    have z6 : w8.cell? ⟨w3.heap.size + 1, 6, none⟩ = some (qj (Z 6)) := qc.at (had := Z) b8 6 (by decide)
    have z7 : w8.cell? ⟨w3.heap.size + 1, 7, none⟩ = some (qj (Z 7)) := qc.at (had := Z) b8 7 (by decide)
    have z8 : w8.cell? ⟨w3.heap.size + 1, 8, none⟩ = some (qj (Z 8)) := qc.at (had := Z) b8 8 (by decide)
    have z9 : w8.cell? ⟨w3.heap.size + 1, 9, none⟩ = some (qj (Z 9)) := qc.at (had := Z) b8 9 (by decide)
    clear u0 u1 u2 u3 u4 u5 u6 u7 u8 u9 f0 f1 f2 f3 x57 c8 b8 hup
    have HOV := ξ (fun w => qd0 had Z (fun g a b e => by have := HZ.out.2.2.2 g a b e; omega) w)
    have hlv : (qd s t).leave p j had = zx had Z := by unfold Sem.leave; rw [← HZ.out.1, ← HZ.out.2.1, HEV.out]; rfl
    obtain ⟨Y, hY⟩ : ∃ Y, Y = zx had Z := ⟨_, rfl⟩
    rw [← hY] at HOV hlv
    have GD := ξ HOV.out
    unfold qk at GD
    have HLV := ξ hlv
    clear HOV hlv hY
    go_wp2_with fail
    refine (GD.out _).mono ?_
    rintro e w9 ⟨rfl, hB9⟩
    have hr9 : qm w9 (w.heap.size + 1) 10 27 (fun _ => .complex .f64 0 0) := H8.out.2.2.1.below hB9 H8.out.2.2.1.lt
    have Xv : ∀ S, qb S w8 w9 := fun S => qb.of_below hB9
    clear hB9 k_ z0 z1 z2 z3 z4 z5 z6 z7 z8 z9 GD
    have HK9 := ξ Xv
    obtain ⟨r0, r1, r2, r3, r4, r5, r6, r7, r8, r9, f0, f1, f2, f3, f4, f5, f6, f7, f8, f9⟩ := hr9.rf10
    have zI := ξ (kn (w := w9) (b := w.heap.size + 1) Y)
    have za := ξ (qV (w := w9) (b := w.heap.size + 1) hr9 Y)
    clear hr9
    clear Xv
    go_wp2
    refine bodyPost_ret (v := .agg (cH Y)) (by simp [results, results62, go_sem, za.out]) rfl ⟨gs, ?_, vj.out.1.trans H8.out.2.2.2.2.2, HX.out.mono (HX.out.keeps (HX.out.keeps H8.out.2.2.2.1 (HK9.out _)) (zI.out.mono (fun i _ e => .inr (by subst e; omega)))) (fun b hb => .inl hb), ?_⟩
    ·rw [HLV.out]
    ·exact ((((yg.out _).trans (vj.out.2.2.2.2.1.mono (fun i _ e => .inl (.inl e)))).trans (KM.out.1 _)).trans2 (H8.out.2.2.2.2.1.trans (HK9.out _)) (fun i hi e => e.elim id (fun e => by omega))).trans2 zI.out (fun i hi e => by omega)
end
end Go.Proofs.YtjgegohidhdbpaaGreatDoor
