/- A trial with no loose one, and with one. -/
import Derived.Test.YtjgegohidhdbpaaGreatDoorJMcQ
import Derived.Test.YtjgegohidhdbpaaGreatDoorJSetJ
open Go.Proofs.Tryz
set_option linter.unusedVariables false
set_option linter.unusedSimpArgs false
set_option maxRecDepth 100000
set_option maxHeartbeats 40000000
namespace Go.Proofs.YtjgegohidhdbpaaGreatDoor
open Go.RowKit Go.Maps Go.WideMaps
section
variable {X : Nat} {v : kU} {s : List UInt8} {xs : List Nd} {B : Nat} {c1 : Lit → Nat} {n1 : Nat} {P1 : Lit → Prop} {c2 : Lit → Nat} {n2 : Nat}
theorem QT : JX X v s xs B c1 n1 P1 c2 n2 (fun _ => False) (fun E es w => Iv X v s xs B c1 n1 P1 c2 n2 E es w) where
 iv h := h.mono (fun b hb => hb.elim id False.elim)
 mono h hE := h.mono hE
 fresh h := h.fresh
 keeps h k := h.keeps k
 own _ h _ := h.mono (fun b hb => .inl hb)
 lt _ b hb := hb.elim
theorem Ug (fx : Fx v s xs B P1) (i p : Nat) (x : Nd) (had : Cp) (w : World) (hx : xs[i]? = some x) (hk : x.kind = 0 ∨ x.kind = 1 ∨ x.kind = 2 ∨ x.kind = 3 ∨ (x.kind = 8 ∧ 1 ≤ x.n ∧ x.n ≤ 9)) (hp : p ≤ s.length) (hc : qo s.length had) (htr : km w X v s) : Calls prog 149 #[.pointer (some ⟨X, 0, none⟩), Je x, .int .i64 p, qk had] w (Qd (zE s x p had) w) := by
 have jp := fx.sl
 rcases hk with h | h | h | h | ⟨h, h1, h9⟩
 ·exact Xz X p v s x (.inl h) (fx.fits i x hx) hp (by omega) had w htr
 ·exact Xz X p v s x (.inr (.inl h)) (fx.fits i x hx) hp (by omega) had w htr
 ·exact Xz X p v s x (.inr (.inr (.inl h))) (fx.fits i x hx) hp (by omega) had w htr
 ·exact Xz X p v s x (.inr (.inr (.inr h))) (fx.fits i x hx) hp (by omega) had w htr
 ·obtain ⟨kd, w0, w1, w2, w3, xa, xb, m, M, xn⟩ := x
  simp only at h h1 h9
  subst h
  obtain ⟨g, rfl⟩ := Int.eq_ofNat_of_zero_le (show 0 ≤ xn by omega)
  exact qep X p g v s w0 w1 w2 w3 xa xb m M (by omega) hp (by omega) had hc w htr
theorem Yx (fx : Fx v s xs B P1) (Ye : v.lp = none) (Jc : ∀ (i : Nat) (x : Nd), xs[i]? = some x → x.kind = -1 → x = QN) (n : Nat) (hn : n < v.n) (t : T) (ht : zT (fun i => xs[i]?) t n) :
  Vm X v s B (fun _ => False) (fun E es w => Iv X v s xs B c1 n1 P1 c2 n2 E es w) n t :=
 Yy QT fx Jc (fun n k t hn hk ht hA => Yd QT fx Ye n k t hn hk hA) (Ug fx) n n (Nat.le_refl _) hn t ht
end
section
variable (X X2 : Nat) (v v2 : kU) (s : List UInt8) (xs xs2 : List Nd) (B : Nat) (c1 : Lit → Nat) (n1 : Nat) (P1 : Lit → Prop) (c2 : Lit → Nat) (n2 : Nat) (d1 : Lit → Nat) (m1 : Nat) (Q1 : Lit → Prop) (d2 : Lit → Nat) (m2 : Nat)
def JL (E : Nat → Prop) (es : List Lit) (w : World) : Prop := Iv X v s xs B c1 n1 P1 c2 n2 (fun b => E b ∨ Mt v2 b) es w ∧ ∃ es2, Iv X2 v2 s xs2 B d1 m1 Q1 d2 m2 (fun b => E b ∨ Mt v b) es2 w
end
section
variable {X X2 : Nat} {v v2 : kU} {s : List UInt8} {xs xs2 : List Nd} {B : Nat} {c1 : Lit → Nat} {n1 : Nat} {P1 : Lit → Prop} {c2 : Lit → Nat} {n2 : Nat} {d1 : Lit → Nat} {m1 : Nat} {Q1 : Lit → Prop} {d2 : Lit → Nat} {m2 : Nat}
theorem Gr {w : World} {c : Nat} (hc : ∀ j, w.cell? ⟨c, j, none⟩ = none) (n : Nat) (f : Nat → Bool) : ¬ qI w c (n + 1) f := fun hf => by
 have := hf.cell 0 (by omega)
 rw [hc] at this; cases this
theorem Uf : JX X v s xs B c1 n1 P1 c2 n2 (Mt v2) (JL X X2 v v2 s xs xs2 B c1 n1 P1 c2 n2 d1 m1 Q1 d2 m2) where
 iv h := h.1
 mono h hE := ⟨h.1.mono (fun b hb => hb.imp (hE b) id), h.2.elim fun es2 i2 => ⟨es2, i2.mono (fun b hb => hb.imp (hE b) id)⟩⟩
 fresh h := ⟨h.1.fresh.mono (fun b hb => by rcases hb with (hb | hb) | hb; exact .inl (.inl hb); exact .inr hb; exact .inl (.inr hb)), h.2.elim fun es2 i2 => ⟨es2, i2.fresh.mono (fun b hb => by rcases hb with (hb | hb) | hb; exact .inl (.inl hb); exact .inr hb; exact .inl (.inr hb))⟩⟩
 keeps h k := ⟨h.1.keeps (k.mono (fun i _ e => .inl e)), h.2.elim fun es2 i2 => ⟨es2, i2.keeps (k.mono (fun i _ e => .inl e))⟩⟩
 own h h' k := ⟨h', h.2.elim fun es2 i2 => ⟨es2, i2.keeps (k.mono (fun i _ e => .inr e))⟩⟩
 lt h b hb := by
  obtain ⟨es2, iv2⟩ := h.2
  obtain ⟨l1, l2, l3, l4, l5, l6, l7⟩ := iv2.lts
  obtain ⟨L, h1, _⟩ := iv2.reach
  obtain ⟨L', h2, _⟩ := iv2.left
  rcases hb with e | e | e <;> subst e
  ·exact ⟨l4, Gr iv2.nums.noCell⟩
  ·exact ⟨l5, Gr h1.noCell⟩
  ·exact ⟨l6, Gr h2.noCell⟩
theorem qbH {t : T} {c : Nat} (h : zz t c) : zz (loosen t) c := by
 cases t with
 | leaf x => unfold loosen; split <;> exact trivial
 | two k a b => exact trivial
 | times m M u => exact h
 | group n u => exact trivial
theorem Gp (fx : Fx v s xs B P1) (fx2 : Fx v2 s xs2 B Q1) (Ye : v.lp = some ⟨X2, 0, none⟩) (n k : Nat) (t : T) (hn : n < v.n) (hk : k ≤ s.length) (hm : Wy t) (hA : zA X v s B (Mt v2) (JL X X2 v v2 s xs xs2 B c1 n1 P1 c2 n2 d1 m1 Q1 d2 m2) 113 n t k)
  (Qq : jI X2 v2 s B (fun _ => False) (fun E es w => Iv X2 v2 s xs2 B d1 m1 Q1 d2 m2 E es w) n (loosen t) k) : GoC X v s B (Mt v2) (JL X X2 v v2 s xs xs2 B c1 n1 P1 c2 n2 d1 m1 Q1 d2 m2) n t k := by
 intro c had E es w fb f K cap JR kC qB hJ hE zJ qv hL
 have jx : JX X v s xs B c1 n1 P1 c2 n2 (Mt v2) (JL X X2 v v2 s xs xs2 B c1 n1 P1 c2 n2 d1 m1 Q1 d2 m2) := Uf
 have jp := fx.sl
 have iv := jx.iv hJ
 obtain ⟨lX, llb, lrb, lbn, lbr, lbl, lw⟩ := iv.lts
 have htr : km w.drew X v s := ⟨iv.tr.heap⟩
 have ZO : ¬ Mt v fb ∧ ¬ Mt v2 fb := ⟨fun e => by
  obtain ⟨o1, o2, o3, o4, o5, o6, o7⟩ := iv.out
  rcases e with e | e | e
  ·subst e; exact o4 (.inl zJ)
  ·subst e; exact o5 (.inl zJ)
  ·subst e; exact o6 (.inl zJ), fun e => (jx.lt hJ fb e).2 _ _ qv⟩
 have HNX : Hid (¬ Mt v2 X) := ξ (fun e => iv.out.1 (.inr e))
 have W0 := zw s t hm
 have hsm2 := zw s (loosen t) (yz t hm)
 have HNM := ξ ZO
 have XQ := ξ Ye
 have HL := ξ hL
 have HJ := ξ hJ
 have HA := ξ hA
 have HE2 := ξ Qq
 have HX := ξ jx
 have HE := ξ hE
 have vP := ξ qv
 have HC := ξ (ζ JR (ζ kC qB))
 have HSM := ξ (ζ W0 (ζ hsm2 hm))
 have HEM : Hid (∀ b, (E b ∨ Mt v b) → b < w.heap.size) := ξ (fun b hb => by
  rcases hb with hb | hb | hb | hb
  ·exact hE b hb
  ·omega
  ·omega
  ·omega)
 have qlN := ξ (fun w => yS w)
 have ko := ξ htr
 clear hJ hA Qq jx hE qv kC qB iv hL ZO Ye W0 hsm2 hm
 unfold PV
 go_enter func72, ntmps72
 go_wp2_with fail
 refine wp_region_noPanic ?_
 refine wp_region_held_drew (S := fun w' => km w' X v s) (by kernel_rfl) ?_ (fun qe => ?_)
 ·(try dsimp only); exact ko.out
 refine tq 0 ?_ (hy := by (intro wq qi; have x6 := qi.c6; rw [XQ.out] at x6; go_simp); (try rfl))
 refine tq 1 ?_ (hy := by (intro wq qi; have x6 := qi.c6; rw [XQ.out] at x6; go_simp); (try rfl))
 refine tq 2 ?_ (hy := by (intro wq qi; have x6 := qi.c6; rw [XQ.out] at x6; go_simp); (try rfl))
 refine tq 3 ?_ (hy := by (intro wq qi; have x6 := qi.c6; rw [XQ.out] at x6; go_simp); (try rfl))
 refine tq 4 ?_ (hy := by (intro wq qi; have x6 := qi.c6; rw [XQ.out] at x6; go_simp); (try rfl))
 refine tq 5 ?_ (hy := by (intro wq qi; have x6 := qi.c6; rw [XQ.out] at x6; go_simp); (try rfl))
 refine tq 6 ?_ (hy := by (intro wq qi; have x6 := qi.c6; rw [XQ.out] at x6; go_simp); (try rfl))
 refine tq 7 ?_ (hy := by (intro wq qi; have x6 := qi.c6; rw [XQ.out] at x6; go_simp); (try rfl))
 refine tq 8 ?_ (hy := by (intro wq qi; have x6 := qi.c6; rw [XQ.out] at x6; go_simp); (try rfl))
 refine tq 9 ?_ (hy := by (intro wq qi; have x6 := qi.c6; rw [XQ.out] at x6; go_simp); (try rfl))
 refine tq 10 ?_ (hy := by (intro wq qi; have x6 := qi.c6; rw [XQ.out] at x6; go_simp); (try rfl))
 refine tq 11 ?_ (hy := by (intro wq qi; have x6 := qi.c6; rw [XQ.out] at x6; go_simp); (try rfl))
 refine tq 12 ?_ (hy := by (intro wq qi; have x6 := qi.c6; rw [XQ.out] at x6; go_simp); (try rfl))
 refine tq 15 ?_ (hy := by (intro wq qi; have x6 := qi.c6; rw [XQ.out] at x6; go_simp); (try rfl))
 refine zU 13 fun K hK => ?_
 go_simp
 refine (qlN.out _).mono ?_
 rintro e wA ⟨rfl, hBA⟩
 have hkA : ∀ S, qb S w wA := fun S => (qb.refl S w).drew.trans (qb.of_below hBA)
 have HKA := ξ hkA
 have htA : km wA X v s := (show km w X v s from ⟨ko.out.heap⟩).keeps (hkA (fun _ => False)) id
 clear hBA hkA
 refine hK.out _ _ ?_ (fun qe => ?_)
 ·(try dsimp only); exact htA
 clear hK K
 (try simp only [Act.put, zm])
 refine zU 14 fun K hK => ?_
 go_simp
 obtain ⟨es2, Jh⟩ := HJ.out.2
 have qh := HE2.out c (fun _ => none) _ es2 wA HC.out.1 (qbH HC.out.2.1) (fun g a b e => by cases e) (Jh.keeps (HKA.out _)) (fun b hb => Nat.lt_of_lt_of_le (HEM.out b hb) (HKA.out (fun _ => False)).size)
 refine qh.mono ?_
 rintro e wB ⟨b2, fs2, rfl, zk, hbE, qeq, _, hbM, K1, hi3, hkB0⟩
 have hkB : qb (Mt v2) wA wB := hkB0.mono (fun i _ e => e.elim id False.elim)
 have hJB : JL X X2 v v2 s xs xs2 B c1 n1 P1 c2 n2 d1 m1 Q1 d2 m2 E es wB := ⟨(HJ.out.1.keeps (HKA.out _)).keeps (hkB.mono (fun i _ e => .inr e)), fs2, hi3⟩
 have htB : km wB X v s := htA.keeps hkB HNX.out
 have hFR := Xs b2 (s.length / 64 + 1) (s.length / 64 + 1) k _ (by omega) (by omega) (fun i hi => by
  rw [Bool.eq_false_iff]
  intro e
  have := (HSM.out.2.1.le k c (fun _ => none) i (fun g a b e => by cases e) hk e).2
  omega) wB hi3.tab zk
 have HFR := ξ hFR
 have HKB := ξ (ζ hkB hJB)
 clear qh zk hbE K1 hi3 hkB0 hkB hJB Jh hFR htA
 refine hK.out _ _ ?_ (fun qe => ?_)
 ·(try dsimp only); exact htB
 clear hK K
 (try simp only [Act.put, zm])
 refine zU 16 fun K hK => ?_
 go_simp
 refine HFR.out.mono ?_
 rintro e wC ⟨⟨r, rfl, hr⟩, rfl⟩
 refine hK.out _ _ ?_ (fun qe => ?_)
 ·(try dsimp only); exact htB
 clear hK K HFR
 (try simp only [Act.put, zm])
 have hJC := HKB.out.2
 have hkC : qb (Mt v2) w wC := (HKA.out _).trans HKB.out.1
 rcases hr with ⟨rfl, hz⟩ | ⟨k', rfl, _, _, _⟩
 ·have hfe : ∀ j, (qd s t).ends k c had j = false := fun j => by
   rw [Bool.eq_false_iff]
   intro e
   have h1 := HSM.out.1.le k c had j HC.out.2.2 hk e
   have h2 := jU s t HSM.out.2.2 k c had (fun _ => none) j HC.out.2.2 hk e
   rw [show (qd s (loosen t)).ends k c (fun _ => none) j = false from hz j h1.1] at h2; cases h2
  have HFE := ξ hfe
  have qR := ξ (ζ hJC hkC)
  clear hfe hz hJC hkC
  refine tq 17 ?_ (hy := by (intro wq qi; have x6 := qi.c6; rw [XQ.out] at x6; go_simp); (try rfl))
  refine tq 18 ?_ (hy := by (intro wq qi; have x6 := qi.c6; rw [XQ.out] at x6; go_simp); (try rfl))
  refine wpAnyH_done (by kernel_rfl) ?_ _
  refine NoPanic.normal ?_
  go_wp2
  first | go_end0 | refine bodyPost_ret (results_none rfl _ _ _) rfl ?_
  have e : (fun j => f j || (qd s t).ends k c had j) = f := by funext j; rw [HFE.out j, Bool.or_false]
  have KD : qI wC fb (s.length / 64 + 1) (fun j => f j || (qd s t).ends k c had j) := by rw [e]; exact vP.out.keeps qR.out.2 HNM.out.2
  first
  | exact ⟨es, rfl, KD, List.prefix_refl _, qR.out.1, qR.out.2.mono (fun i _ e => .inl (.inr e))⟩
  | exact ⟨rfl, KD, es, List.prefix_refl _, qR.out.1, qR.out.2.mono (fun i _ e => .inl (.inr e))⟩
 ·have h0 : (0 : Int) ≤ (k' : Int) := by omega
  have hen := HL.out.1
  have qh := HL.out.2 es wC (List.prefix_refl _) hJC (hkC.mono (fun i _ e => .inl (.inr e)))
  have qp := ξ qh
  have HKC := ξ (ζ hkC hJC)
  clear qh hkC hJC
  refine tq 17 ?_ (hy := by (intro wq qi; have x6 := qi.c6; rw [XQ.out] at x6; go_simp); (try rfl))
  refine tq 18 ?_ (hy := by (intro wq qi; have x6 := qi.c6; rw [XQ.out] at x6; go_simp); (try rfl))
  refine wpAnyH_done (by kernel_rfl) ?_ _
  refine NoPanic.normal ?_
  go_wp2_with fail
  refine qp.out.mono ?_
  rintro e wD ⟨gs, rfl, qJ, vV, qH⟩
  have zl := HKC.out.1.mono (S' := fun b => Mt v b ∨ Mt v2 b) (fun i _ e => .inr e)
  have ZE := HA.out c had E gs wD fb f HC.out.1 HC.out.2.1 HC.out.2.2 vV (fun b hb => Nat.lt_of_lt_of_le (HE.out b hb) (zl.trans qH).size) zJ (vP.out.keeps (zl.trans qH) (fun e => e.elim HNM.out.1 HNM.out.2))
  unfold PV qk at ZE
  have HCA := ξ ZE
  have qt := ξ (ζ qJ (zl.trans qH))
  clear ZE qJ qH vV qp zl
  unfold qk
  go_wp2_with fail
  refine HCA.out.mono ?_
  rintro e wE ⟨hs, rfl, jz, Yf, vw, zl⟩
  go_wp2
  first | go_end0 | refine bodyPost_ret (results_none rfl _ _ _) rfl ?_
  exact ⟨hs, rfl, jz, qt.out.1.trans Yf, vw, (qt.out.2.mono (fun i _ e => .inl e)).trans zl⟩
end
theorem qhA (F : Nat → Lit) (N : Nat) (ok : Lit → Prop) (h : ∀ l, ok l → ∃ k, k < N ∧ F k = l) : ∃ code : Lit → Nat, (∀ l m, ok l → ok m → code l = code m → l = m) ∧ ∀ l, ok l → code l < N := by
 classical
 refine ⟨fun l => if q : ∃ k, k < N ∧ F k = l then Classical.choose q else 0, fun l m hl hm e => ?_, fun l hl => ?_⟩
 ·simp only at e
  rw [dif_pos (h l hl), dif_pos (h m hm)] at e
  have h1 := (Classical.choose_spec (h l hl)).2
  have h2 := (Classical.choose_spec (h m hm)).2
  rw [← h1, ← h2, e]
 ·simp only
  rw [dif_pos (h l hl)]
  exact (Classical.choose_spec (h l hl)).1
theorem mix (a b A B : Nat) (h1 : a < A) (h2 : b < B) : a * B + b < A * B ∧ (a * B + b) / B = a ∧ (a * B + b) % B = b := by
 refine ⟨?_, ?_, ?_⟩
 ·have : (a + 1) * B ≤ A * B := Nat.mul_le_mul_right B h1
  rw [Nat.succ_mul] at this
  omega
 ·rw [Nat.mul_comm, Nat.mul_add_div (by omega), Nat.div_eq_of_lt h2, Nat.add_zero]
 ·rw [Nat.mul_comm, Nat.mul_add_mod, Nat.mod_eq_of_lt h2]
theorem QU (n len B Q : Nat) : ∃ code : Lit → Nat, (∀ l m, okS n len B Q l → okS n len B Q m → code l = code m → l = m) ∧ ∀ l, okS n len B Q l → code l < n * (len + 1) * (B + 1) * (Q + 1) := by
 refine qhA (fun k => Jm ((k / (Q + 1) / (B + 1) / (len + 1) : Nat) : Int) ((k / (Q + 1) / (B + 1) % (len + 1) : Nat) : Int) ((k / (Q + 1) % (B + 1) : Nat) : Int) ((k % (Q + 1) : Nat) : Int)) _ _ ?_
 rintro l ⟨i, p, c, q, hi, hp, hc, hq, rfl⟩
 obtain ⟨a1, a2, a3⟩ := mix i p n (len + 1) hi (by omega)
 obtain ⟨b1, b2, b3⟩ := mix (i * (len + 1) + p) c (n * (len + 1)) (B + 1) a1 (by omega)
 obtain ⟨d1, d2, d3⟩ := mix ((i * (len + 1) + p) * (B + 1) + c) q (n * (len + 1) * (B + 1)) (Q + 1) b1 (by omega)
 refine ⟨((i * (len + 1) + p) * (B + 1) + c) * (Q + 1) + q, d1, ?_⟩
 rw [d3, d2, b3, b2, a3, a2]
section
variable {s : List UInt8} {xs : List Nd} {B : Nat} {c1 : Lit → Nat} {n1 : Nat} {P1 : Lit → Prop} {c2 : Lit → Nat} {n2 : Nat}
theorem KS (lb lo n lc : Nat) (qq : xs.length = n) (h1 : 1 ≤ n) (h2 : n ≤ 120) (J9 : ∀ i, i < n → ∃ t, zT (fun i => xs[i]?) t i)
  (UK : ∀ l m, P1 l → P1 m → c1 l = c1 m → l = m) (YU : ∀ l, P1 l → c1 l < n1) (hm1 : n1 < maxLen) (Jh : ∀ l m, okS n s.length B n1 l → okS n s.length B n1 m → c2 l = c2 m → l = m) (hl2 : ∀ l, okS n s.length B n1 l → c2 l < n2) (UZ : n2 < maxLen)
  (w : World) (hx : qn w lb lo xs) (hT : TabAt 0 Lib.deBruijn64tab w) (h0 : 0 < w.heap.size) :
  Calls prog 58 #[.slice (some ⟨lb, lo, none⟩) n lc, .string ⟨s.toArray⟩] w fun e w' => ∃ (X : Nat) (v : kU), e = .returned (.pointer (some ⟨X, 0, none⟩)) ∧ v.lp = none ∧ v.lb = lb ∧ v.lo = lo ∧ v.n = n ∧ v.lc = lc ∧ (w.heap.size ≤ X ∧ w.heap.size ≤ v.rb ∧ w.heap.size ≤ v.bn ∧ w.heap.size ≤ v.br ∧ w.heap.size ≤ v.bl) ∧ (∀ E : Nat → Prop, (∀ b, E b → b < w.heap.size ∧ b ≠ lb ∧ b ≠ 0) → Iv X v s xs B c1 n1 P1 c2 n2 E [] w') ∧ Below w.heap.size w w' := by
 have HR := ξ (qbt s lb lo n lc xs qq h1 h2 J9 w hx)
 have HX := ξ hx
 have HT := ξ hT
 have HM := ξ (ζ (ζ UK (ζ YU hm1)) (ζ Jh (ζ hl2 UZ)))
 have lx := hx.lt
 clear J9 hx hT UK YU hm1 Jh hl2 UZ
 go_enter func58, ntmps58
 go_wp2_with fail
 refine HR.out.mono ?_
 rintro e w1 ⟨rfl, ⟨F, hF, Z3⟩, qr⟩
 have lF := hF.lt
 have kR := qr.size
 have HF := ξ (ζ hF (ζ Z3 qr))
 clear hF Z3 qr HR
 have hmk : ∀ (t : TypeId) (W : World), (Instr.makeMap t none).run prog W = .ok (.map (some W.heap.size)) (W.alloc (.map #[] 0)) := fun t W => rfl
 go_wp2
 go_ret
 clear hmk
 refine ⟨w1.heap.size + 3, ⟨lb, lo, n, lc, w.heap.size, w1.heap.size, w1.heap.size + 1, w1.heap.size + 2, none⟩, by simp, rfl, rfl, rfl, rfl, rfl, ⟨by omega, Nat.le_refl _, kR, by show w.heap.size ≤ w1.heap.size + 1; omega, by show w.heap.size ≤ w1.heap.size + 2; omega⟩, ?_, ?_⟩
 ·intro E hE
  obtain ⟨⟨UK, YU, hm1⟩, Jh, hl2, UZ⟩ := HM.out
  obtain ⟨hF, Z3, qr⟩ := HF.out
  have ka : Below (w1.alloc (.map #[] 0)).heap.size (w1.alloc (.map #[] 0)) ((((w1.alloc (.map #[] 0)).alloc (.map #[] 0)).alloc (.map #[] 0)).alloc (.cells #[.slice (some ⟨lb, lo, none⟩) n lc, .string ⟨s.toArray⟩, .slice (some ⟨w.heap.size, 0, none⟩) n n, .map (some w1.heap.size), .map (some (w1.heap.size + 1)), .map (some (w1.heap.size + 2)), .pointer none] 95)) := (((Below.refl _ (w1.alloc (.map #[] 0))).alloc (Nat.le_refl _) _).alloc (by simp <;> omega) _).alloc (by simp <;> omega) _
  have kb : Below ((w1.alloc (.map #[] 0)).alloc (.map #[] 0)).heap.size ((w1.alloc (.map #[] 0)).alloc (.map #[] 0)) ((((w1.alloc (.map #[] 0)).alloc (.map #[] 0)).alloc (.map #[] 0)).alloc (.cells #[.slice (some ⟨lb, lo, none⟩) n lc, .string ⟨s.toArray⟩, .slice (some ⟨w.heap.size, 0, none⟩) n n, .map (some w1.heap.size), .map (some (w1.heap.size + 1)), .map (some (w1.heap.size + 2)), .pointer none] 95)) := ((Below.refl _ ((w1.alloc (.map #[] 0)).alloc (.map #[] 0))).alloc (Nat.le_refl _) _).alloc (by simp <;> omega) _
  have kc : Below (((w1.alloc (.map #[] 0)).alloc (.map #[] 0)).alloc (.map #[] 0)).heap.size (((w1.alloc (.map #[] 0)).alloc (.map #[] 0)).alloc (.map #[] 0)) ((((w1.alloc (.map #[] 0)).alloc (.map #[] 0)).alloc (.map #[] 0)).alloc (.cells #[.slice (some ⟨lb, lo, none⟩) n lc, .string ⟨s.toArray⟩, .slice (some ⟨w.heap.size, 0, none⟩) n n, .map (some w1.heap.size), .map (some (w1.heap.size + 1)), .map (some (w1.heap.size + 2)), .pointer none] 95)) := (Below.refl _ (((w1.alloc (.map #[] 0)).alloc (.map #[] 0)).alloc (.map #[] 0))).alloc (Nat.le_refl _) _
  have k1 : Below w1.heap.size w1 ((((w1.alloc (.map #[] 0)).alloc (.map #[] 0)).alloc (.map #[] 0)).alloc (.cells #[.slice (some ⟨lb, lo, none⟩) n lc, .string ⟨s.toArray⟩, .slice (some ⟨w.heap.size, 0, none⟩) n n, .map (some w1.heap.size), .map (some (w1.heap.size + 1)), .map (some (w1.heap.size + 2)), .pointer none] 95)) := ((((Below.refl _ w1).alloc (Nat.le_refl _) _).alloc (by simp <;> omega) _).alloc (by simp <;> omega) _).alloc (by simp <;> omega) _
  have kw : Below w.heap.size w ((((w1.alloc (.map #[] 0)).alloc (.map #[] 0)).alloc (.map #[] 0)).alloc (.cells #[.slice (some ⟨lb, lo, none⟩) n lc, .string ⟨s.toArray⟩, .slice (some ⟨w.heap.size, 0, none⟩) n n, .map (some w1.heap.size), .map (some (w1.heap.size + 1)), .map (some (w1.heap.size + 2)), .pointer none] 95)) := qr.trans (k1.mono kR)
  have en : numL [] = fun _ => none := by funext l; simp [numL, pos]
  have no : ∀ b, w.heap.size ≤ b → ¬ E b := fun b hb e => by have := (hE b e).1; omega
  refine ⟨⟨?_⟩, HX.out.below kw lx, ⟨F, hF.below k1 lF, Z3⟩, fun j hj => ?_, List.nodup_nil, (fun l hl => by cases hl), ?_, ⟨fun _ => none, ?_, (fun _ _ _ _ _ _ hu => by cases hu)⟩, ⟨fun _ => none, ?_, (fun _ _ _ _ _ _ hu => by cases hu)⟩, ⟨no _ (by omega), fun e => (hE _ e).2.1 rfl, no _ (Nat.le_refl _), no _ kR, no _ (by show w.heap.size ≤ w1.heap.size + 1; omega), no _ (by show w.heap.size ≤ w1.heap.size + 2; omega), fun e => (hE _ e).2.2 rfl⟩, ⟨by show w1.heap.size ≠ w1.heap.size + 1; omega, by show w1.heap.size ≠ w1.heap.size + 2; omega, by show w1.heap.size + 1 ≠ w1.heap.size + 2; omega⟩⟩
  ·have := (zG.new (((w1.alloc (.map #[] 0)).alloc (.map #[] 0)).alloc (.map #[] 0)) #[.slice (some ⟨lb, lo, none⟩) n lc, .string ⟨s.toArray⟩, .slice (some ⟨w.heap.size, 0, none⟩) n n, .map (some w1.heap.size), .map (some (w1.heap.size + 1)), .map (some (w1.heap.size + 2)), .pointer none] 95).heap
   simp only [World.size_alloc] at this
   exact this
  ·have e := kw.block 0 h0
   have := HT.out j hj
   rw [← this]
   simp only [World.cell?, e]
  ·rw [en]
   exact (jq.made _ w1 c1 n1 P1 UK YU hm1).of_heap (ka.block _ (by simp <;> omega))
  ·have := (jq.made 137 (w1.alloc (.map #[] 0)) c2 n2 (okS n s.length B n1) Jh hl2 UZ).of_heap (kb.block _ (by simp <;> omega))
   simp only [World.size_alloc] at this
   exact this
  ·have := (jq.made 137 ((w1.alloc (.map #[] 0)).alloc (.map #[] 0)) c2 n2 (okS n s.length B n1) Jh hl2 UZ).of_heap (kc.block _ (by simp <;> omega))
   simp only [World.size_alloc] at this
   exact this
 ·exact HF.out.2.2.trans ((((((Below.refl _ w1).alloc (Nat.le_refl _) _).alloc (by simp <;> omega) _).alloc (by simp <;> omega) _).alloc (by simp <;> omega) _).mono kR)
end
structure QV (w : World) (g k : Nat) (xs : List Nd) : Prop where
 row : ∃ cur, w.heap[g]? = some (.cells cur 57 (0, 0)) ∧ ∀ (i r : Nat) (x : Nd), xs[i]? = some x → r < 10 → cur[i * 10 + r]? = (if i < k then Qu x else x).cells[r]?
theorem QV.lt {w : World} {g k : Nat} {xs : List Nd} (h : QV w g k xs) : g < w.heap.size := by
 obtain ⟨cur, h1, _⟩ := h.row
 exact (Array.getElem?_eq_some_iff.1 h1).1
theorem QV.heap {w w' : World} {g k : Nat} {xs : List Nd} (h : QV w g k xs) (e : w'.heap[g]? = w.heap[g]?) : QV w' g k xs := by
 obtain ⟨cur, h1, h2⟩ := h.row
 exact ⟨cur, e.trans h1, h2⟩
theorem QV.cell {w : World} {g k : Nat} {xs : List Nd} (h : QV w g k xs) {i : Nat} {x : Nd} (hx : xs[i]? = some x) {r : Nat} (hr : r < 10) : w.cell? ⟨g, i * 10 + r, none⟩ = (if i < k then Qu x else x).cells[r]? := by
 obtain ⟨cur, h1, h2⟩ := h.row
 rw [← h2 i r x hx hr]
 simp [World.cell?, h1]
theorem QV.fz {w : World} {g k : Nat} {xs : List Nd} (h : QV w g k xs) (j : Nat) : w.frozen? ⟨g, j, none⟩ = false := by
 obtain ⟨cur, h1, _⟩ := h.row
 simp [World.frozen?, h1]
theorem QV.keep {w : World} {g k : Nat} {xs : List Nd} (h : QV w g k xs) {x : Nd} (hx : xs[k]? = some x) (h8 : x.kind ≠ 8) : QV w g (k + 1) xs := by
 obtain ⟨cur, h1, h2⟩ := h.row
 refine ⟨cur, h1, fun i r y hy hr => ?_⟩
 rw [h2 i r y hy hr]
 by_cases e : i = k
 ·subst e
  rw [hx] at hy; cases hy
  rw [if_neg (Nat.lt_irrefl _), if_pos (Nat.lt_succ_self _)]
  unfold Qu
  rw [if_neg h8]
 ·by_cases q : i < k
  ·rw [if_pos q, if_pos (by omega)]
  ·rw [if_neg q, if_neg (by omega)]
theorem QV.turn {w : World} {g k : Nat} {xs : List Nd} (h : QV w g k xs) {x : Nd} (hx : xs[k]? = some x) (h8 : x.kind = 8) : QV ((((((((((w.setCell ⟨g, k * 10, none⟩ (.int .i64 (-1))).setCell ⟨g, k * 10 + 1, none⟩ (.int .u64 0)).setCell ⟨g, k * 10 + 2, none⟩ (.int .u64 0)).setCell ⟨g, k * 10 + 3, none⟩ (.int .u64 0)).setCell ⟨g, k * 10 + 4, none⟩ (.int .u64 0)).setCell ⟨g, k * 10 + 5, none⟩ (.int .i64 0)).setCell ⟨g, k * 10 + 6, none⟩ (.int .i64 0)).setCell ⟨g, k * 10 + 7, none⟩ (.int .i64 0)).setCell ⟨g, k * 10 + 8, none⟩ (.int .i64 0)).setCell ⟨g, k * 10 + 9, none⟩ (.int .i64 0)) g (k + 1) xs := by
 obtain ⟨cur, h1, h2⟩ := h.row
 have hh := h1
 have g0 : (w.setCell ⟨g, k * 10, none⟩ (.int .i64 (-1))).heap[g]? = some (.cells (cur.setIfInBounds (k * 10) (.int .i64 (-1))) 57 (0, 0)) := heap_setCell_same _ g (k * 10) _ _ _ hh
 have g1 : ((w.setCell ⟨g, k * 10, none⟩ (.int .i64 (-1))).setCell ⟨g, k * 10 + 1, none⟩ (.int .u64 0)).heap[g]? = some (.cells ((cur.setIfInBounds (k * 10) (.int .i64 (-1))).setIfInBounds (k * 10 + 1) (.int .u64 0)) 57 (0, 0)) := heap_setCell_same _ g (k * 10 + 1) _ _ _ g0
 have g2 : (((w.setCell ⟨g, k * 10, none⟩ (.int .i64 (-1))).setCell ⟨g, k * 10 + 1, none⟩ (.int .u64 0)).setCell ⟨g, k * 10 + 2, none⟩ (.int .u64 0)).heap[g]? = some (.cells (((cur.setIfInBounds (k * 10) (.int .i64 (-1))).setIfInBounds (k * 10 + 1) (.int .u64 0)).setIfInBounds (k * 10 + 2) (.int .u64 0)) 57 (0, 0)) := heap_setCell_same _ g (k * 10 + 2) _ _ _ g1
 have g3 : ((((w.setCell ⟨g, k * 10, none⟩ (.int .i64 (-1))).setCell ⟨g, k * 10 + 1, none⟩ (.int .u64 0)).setCell ⟨g, k * 10 + 2, none⟩ (.int .u64 0)).setCell ⟨g, k * 10 + 3, none⟩ (.int .u64 0)).heap[g]? = some (.cells ((((cur.setIfInBounds (k * 10) (.int .i64 (-1))).setIfInBounds (k * 10 + 1) (.int .u64 0)).setIfInBounds (k * 10 + 2) (.int .u64 0)).setIfInBounds (k * 10 + 3) (.int .u64 0)) 57 (0, 0)) := heap_setCell_same _ g (k * 10 + 3) _ _ _ g2
 have g4 : (((((w.setCell ⟨g, k * 10, none⟩ (.int .i64 (-1))).setCell ⟨g, k * 10 + 1, none⟩ (.int .u64 0)).setCell ⟨g, k * 10 + 2, none⟩ (.int .u64 0)).setCell ⟨g, k * 10 + 3, none⟩ (.int .u64 0)).setCell ⟨g, k * 10 + 4, none⟩ (.int .u64 0)).heap[g]? = some (.cells (((((cur.setIfInBounds (k * 10) (.int .i64 (-1))).setIfInBounds (k * 10 + 1) (.int .u64 0)).setIfInBounds (k * 10 + 2) (.int .u64 0)).setIfInBounds (k * 10 + 3) (.int .u64 0)).setIfInBounds (k * 10 + 4) (.int .u64 0)) 57 (0, 0)) := heap_setCell_same _ g (k * 10 + 4) _ _ _ g3
 have g5 : ((((((w.setCell ⟨g, k * 10, none⟩ (.int .i64 (-1))).setCell ⟨g, k * 10 + 1, none⟩ (.int .u64 0)).setCell ⟨g, k * 10 + 2, none⟩ (.int .u64 0)).setCell ⟨g, k * 10 + 3, none⟩ (.int .u64 0)).setCell ⟨g, k * 10 + 4, none⟩ (.int .u64 0)).setCell ⟨g, k * 10 + 5, none⟩ (.int .i64 0)).heap[g]? = some (.cells ((((((cur.setIfInBounds (k * 10) (.int .i64 (-1))).setIfInBounds (k * 10 + 1) (.int .u64 0)).setIfInBounds (k * 10 + 2) (.int .u64 0)).setIfInBounds (k * 10 + 3) (.int .u64 0)).setIfInBounds (k * 10 + 4) (.int .u64 0)).setIfInBounds (k * 10 + 5) (.int .i64 0)) 57 (0, 0)) := heap_setCell_same _ g (k * 10 + 5) _ _ _ g4
 have g6 : (((((((w.setCell ⟨g, k * 10, none⟩ (.int .i64 (-1))).setCell ⟨g, k * 10 + 1, none⟩ (.int .u64 0)).setCell ⟨g, k * 10 + 2, none⟩ (.int .u64 0)).setCell ⟨g, k * 10 + 3, none⟩ (.int .u64 0)).setCell ⟨g, k * 10 + 4, none⟩ (.int .u64 0)).setCell ⟨g, k * 10 + 5, none⟩ (.int .i64 0)).setCell ⟨g, k * 10 + 6, none⟩ (.int .i64 0)).heap[g]? = some (.cells (((((((cur.setIfInBounds (k * 10) (.int .i64 (-1))).setIfInBounds (k * 10 + 1) (.int .u64 0)).setIfInBounds (k * 10 + 2) (.int .u64 0)).setIfInBounds (k * 10 + 3) (.int .u64 0)).setIfInBounds (k * 10 + 4) (.int .u64 0)).setIfInBounds (k * 10 + 5) (.int .i64 0)).setIfInBounds (k * 10 + 6) (.int .i64 0)) 57 (0, 0)) := heap_setCell_same _ g (k * 10 + 6) _ _ _ g5
 have g7 : ((((((((w.setCell ⟨g, k * 10, none⟩ (.int .i64 (-1))).setCell ⟨g, k * 10 + 1, none⟩ (.int .u64 0)).setCell ⟨g, k * 10 + 2, none⟩ (.int .u64 0)).setCell ⟨g, k * 10 + 3, none⟩ (.int .u64 0)).setCell ⟨g, k * 10 + 4, none⟩ (.int .u64 0)).setCell ⟨g, k * 10 + 5, none⟩ (.int .i64 0)).setCell ⟨g, k * 10 + 6, none⟩ (.int .i64 0)).setCell ⟨g, k * 10 + 7, none⟩ (.int .i64 0)).heap[g]? = some (.cells ((((((((cur.setIfInBounds (k * 10) (.int .i64 (-1))).setIfInBounds (k * 10 + 1) (.int .u64 0)).setIfInBounds (k * 10 + 2) (.int .u64 0)).setIfInBounds (k * 10 + 3) (.int .u64 0)).setIfInBounds (k * 10 + 4) (.int .u64 0)).setIfInBounds (k * 10 + 5) (.int .i64 0)).setIfInBounds (k * 10 + 6) (.int .i64 0)).setIfInBounds (k * 10 + 7) (.int .i64 0)) 57 (0, 0)) := heap_setCell_same _ g (k * 10 + 7) _ _ _ g6
 have g8 : (((((((((w.setCell ⟨g, k * 10, none⟩ (.int .i64 (-1))).setCell ⟨g, k * 10 + 1, none⟩ (.int .u64 0)).setCell ⟨g, k * 10 + 2, none⟩ (.int .u64 0)).setCell ⟨g, k * 10 + 3, none⟩ (.int .u64 0)).setCell ⟨g, k * 10 + 4, none⟩ (.int .u64 0)).setCell ⟨g, k * 10 + 5, none⟩ (.int .i64 0)).setCell ⟨g, k * 10 + 6, none⟩ (.int .i64 0)).setCell ⟨g, k * 10 + 7, none⟩ (.int .i64 0)).setCell ⟨g, k * 10 + 8, none⟩ (.int .i64 0)).heap[g]? = some (.cells (((((((((cur.setIfInBounds (k * 10) (.int .i64 (-1))).setIfInBounds (k * 10 + 1) (.int .u64 0)).setIfInBounds (k * 10 + 2) (.int .u64 0)).setIfInBounds (k * 10 + 3) (.int .u64 0)).setIfInBounds (k * 10 + 4) (.int .u64 0)).setIfInBounds (k * 10 + 5) (.int .i64 0)).setIfInBounds (k * 10 + 6) (.int .i64 0)).setIfInBounds (k * 10 + 7) (.int .i64 0)).setIfInBounds (k * 10 + 8) (.int .i64 0)) 57 (0, 0)) := heap_setCell_same _ g (k * 10 + 8) _ _ _ g7
 have g9 : ((((((((((w.setCell ⟨g, k * 10, none⟩ (.int .i64 (-1))).setCell ⟨g, k * 10 + 1, none⟩ (.int .u64 0)).setCell ⟨g, k * 10 + 2, none⟩ (.int .u64 0)).setCell ⟨g, k * 10 + 3, none⟩ (.int .u64 0)).setCell ⟨g, k * 10 + 4, none⟩ (.int .u64 0)).setCell ⟨g, k * 10 + 5, none⟩ (.int .i64 0)).setCell ⟨g, k * 10 + 6, none⟩ (.int .i64 0)).setCell ⟨g, k * 10 + 7, none⟩ (.int .i64 0)).setCell ⟨g, k * 10 + 8, none⟩ (.int .i64 0)).setCell ⟨g, k * 10 + 9, none⟩ (.int .i64 0)).heap[g]? = some (.cells ((((((((((cur.setIfInBounds (k * 10) (.int .i64 (-1))).setIfInBounds (k * 10 + 1) (.int .u64 0)).setIfInBounds (k * 10 + 2) (.int .u64 0)).setIfInBounds (k * 10 + 3) (.int .u64 0)).setIfInBounds (k * 10 + 4) (.int .u64 0)).setIfInBounds (k * 10 + 5) (.int .i64 0)).setIfInBounds (k * 10 + 6) (.int .i64 0)).setIfInBounds (k * 10 + 7) (.int .i64 0)).setIfInBounds (k * 10 + 8) (.int .i64 0)).setIfInBounds (k * 10 + 9) (.int .i64 0)) 57 (0, 0)) := heap_setCell_same _ g (k * 10 + 9) _ _ _ g8
 refine ⟨_, g9, fun i r y hy hr => ?_⟩
 have VJ : ∀ r, r < 10 → k * 10 + r < cur.size := fun r hr => by
  have := h2 k r x hx hr
  rw [if_neg (Nat.lt_irrefl _)] at this
  have h3 : (x.cells[r]?).isSome = true := by
   rcases (by omega : r = 0 ∨ r = 1 ∨ r = 2 ∨ r = 3 ∨ r = 4 ∨ r = 5 ∨ r = 6 ∨ r = 7 ∨ r = 8 ∨ r = 9) with rfl | rfl | rfl | rfl | rfl | rfl | rfl | rfl | rfl | rfl <;> rfl
  rw [← this] at h3
  obtain ⟨v, hv⟩ := Option.isSome_iff_exists.1 h3
  exact (Array.getElem?_eq_some_iff.1 hv).1
 have e9 := VJ 9 (by omega)
 by_cases e : i = k
 ·subst e
  rw [hx] at hy; cases hy
  rw [if_pos (Nat.lt_succ_self _)]
  unfold Qu
  rw [if_pos h8]
  rcases (by omega : r = 0 ∨ r = 1 ∨ r = 2 ∨ r = 3 ∨ r = 4 ∨ r = 5 ∨ r = 6 ∨ r = 7 ∨ r = 8 ∨ r = 9) with rfl | rfl | rfl | rfl | rfl | rfl | rfl | rfl | rfl | rfl <;>
  ·simp only [Array.getElem?_setIfInBounds, Array.size_setIfInBounds]
   simp [QN, Nd.cells]
   try omega
 ·have hne : ∀ q, q < 10 → ¬ (k * 10 + q = i * 10 + r) := fun q hq => by omega
  have hne0 : ¬ (k * 10 = i * 10 + r) := by omega
  simp only [Array.getElem?_setIfInBounds, Array.size_setIfInBounds]
  rw [if_neg (hne 9 (by omega)), if_neg (hne 8 (by omega)), if_neg (hne 7 (by omega)), if_neg (hne 6 (by omega)), if_neg (hne 5 (by omega)), if_neg (hne 4 (by omega)), if_neg (hne 3 (by omega)), if_neg (hne 2 (by omega)), if_neg (hne 1 (by omega)), if_neg hne0, h2 i r y hy hr]
  by_cases q : i < k
  ·rw [if_pos q, if_pos (by omega)]
  ·rw [if_neg q, if_neg (by omega)]
theorem Gq (b o n cap : Nat) (xs : List Nd) (qq : xs.length = n) (h1 : 1 ≤ n) (hn : n ≤ 120) (w : World) (hx : qn w b o xs) :
  Calls prog 60 #[.slice (some ⟨b, o, none⟩) n cap] w fun e w' => (∃ g cap', e = .returned (.slice (some ⟨g, 0, none⟩) n cap') ∧ w.heap.size ≤ g ∧ qn w' g 0 (xs.map Qu)) ∧ Below w.heap.size w w' := by
 have HC := ξ (qfB b o n cap xs qq h1 hn w hx)
 clear hx
 go_enter func60, ntmps60
 go_wp2_with fail
 refine HC.out.mono ?_
 rintro e w1 ⟨⟨g, cap', rfl, hg, hr⟩, qr⟩
 have hL : QV w1 g 0 xs := by
  obtain ⟨cur, a1, a2⟩ := hr.row
  exact ⟨cur, a1, fun i r x hx hr => by rw [if_neg (Nat.not_lt_zero _)]; exact a2 i r x hx hr⟩
 have H1 := ξ (ζ hL qr)
 clear hL hr qr HC
 go_wp2
 go_loopw [10] (fun iv wr => ∃ k : Nat, k ≤ n ∧ iv = .int .i64 k ∧ QV wr g k xs ∧ Below w.heap.size w wr) (fun iv _ => n - (RowKit.intOf iv).toNat)
 case atStart => exact ⟨0, Nat.zero_le _, rfl, H1.out.1, H1.out.2⟩
 case round =>
  obtain ⟨k, hk, rfl, hL, hB⟩ := hrel
  have lB := hB.size
  by_cases zb : k < n
  ·obtain ⟨x, hx⟩ : ∃ x, xs[k]? = some x := ⟨xs[k]'(by omega), List.getElem?_eq_getElem (by omega)⟩
   have m0 : wr.cell? ⟨g, k * 10, none⟩ = some (.int .i64 x.kind) := by have := hL.cell hx (r := 0) (by omega); rw [if_neg (Nat.lt_irrefl _)] at this; exact this
   have m1 : wr.cell? ⟨g, k * 10 + 1, none⟩ = some (.int .u64 x.w0) := by have := hL.cell hx (r := 1) (by omega); rw [if_neg (Nat.lt_irrefl _)] at this; exact this
   have m2 : wr.cell? ⟨g, k * 10 + 2, none⟩ = some (.int .u64 x.w1) := by have := hL.cell hx (r := 2) (by omega); rw [if_neg (Nat.lt_irrefl _)] at this; exact this
   have m3 : wr.cell? ⟨g, k * 10 + 3, none⟩ = some (.int .u64 x.w2) := by have := hL.cell hx (r := 3) (by omega); rw [if_neg (Nat.lt_irrefl _)] at this; exact this
   have m4 : wr.cell? ⟨g, k * 10 + 4, none⟩ = some (.int .u64 x.w3) := by have := hL.cell hx (r := 4) (by omega); rw [if_neg (Nat.lt_irrefl _)] at this; exact this
   have m5 : wr.cell? ⟨g, k * 10 + 5, none⟩ = some (.int .i64 x.a) := by have := hL.cell hx (r := 5) (by omega); rw [if_neg (Nat.lt_irrefl _)] at this; exact this
   have m6 : wr.cell? ⟨g, k * 10 + 6, none⟩ = some (.int .i64 x.b) := by have := hL.cell hx (r := 6) (by omega); rw [if_neg (Nat.lt_irrefl _)] at this; exact this
   have m7 : wr.cell? ⟨g, k * 10 + 7, none⟩ = some (.int .i64 x.mn) := by have := hL.cell hx (r := 7) (by omega); rw [if_neg (Nat.lt_irrefl _)] at this; exact this
   have m8 : wr.cell? ⟨g, k * 10 + 8, none⟩ = some (.int .i64 x.mx) := by have := hL.cell hx (r := 8) (by omega); rw [if_neg (Nat.lt_irrefl _)] at this; exact this
   have m9 : wr.cell? ⟨g, k * 10 + 9, none⟩ = some (.int .i64 x.n) := by have := hL.cell hx (r := 9) (by omega); rw [if_neg (Nat.lt_irrefl _)] at this; exact this
   have HL := ξ (ζ hL (ζ hB hx))
   have lg := hL.lt
   by_cases h8 : x.kind = 8
   ·have hb : (x.kind == 8) = true := by simpa using h8
    have f0 := hL.fz (k * 10)
    have f1 := hL.fz (k * 10 + 1)
    have f2 := hL.fz (k * 10 + 2)
    have f3 := hL.fz (k * 10 + 3)
    have f4 := hL.fz (k * 10 + 4)
    have f5 := hL.fz (k * 10 + 5)
    have f6 := hL.fz (k * 10 + 6)
    have f7 := hL.fz (k * 10 + 7)
    have f8 := hL.fz (k * 10 + 8)
    have f9 := hL.fz (k * 10 + 9)
    clear hL hB hx
    have Vc := HL.out.1.turn HL.out.2.2 h8
    have qer := ξ Vc
    have H8 := ξ h8
    clear Vc h8
    go_wp2
    go_roundw
    case rel => exact ⟨k + 1, by omega, by simp, (qer.out).heap (Below.heap_alloc _ _ _ (by simp; omega)), (((((((((((HL.out.2.1.setCell (p := ⟨g, k * 10, none⟩) hg (.int .i64 (-1))).setCell (p := ⟨g, k * 10 + 1, none⟩) hg (.int .u64 0)).setCell (p := ⟨g, k * 10 + 2, none⟩) hg (.int .u64 0)).setCell (p := ⟨g, k * 10 + 3, none⟩) hg (.int .u64 0)).setCell (p := ⟨g, k * 10 + 4, none⟩) hg (.int .u64 0)).setCell (p := ⟨g, k * 10 + 5, none⟩) hg (.int .i64 0)).setCell (p := ⟨g, k * 10 + 6, none⟩) hg (.int .i64 0)).setCell (p := ⟨g, k * 10 + 7, none⟩) hg (.int .i64 0)).setCell (p := ⟨g, k * 10 + 8, none⟩) hg (.int .i64 0)).setCell (p := ⟨g, k * 10 + 9, none⟩) hg (.int .i64 0))).alloc (by simp; omega) _⟩
    case measure => (simp [RowKit.intOf]) <;> omega
   ·have hb : (x.kind == 8) = false := by rw [beq_eq_false_iff_ne]; exact h8
    have Vc := HL.out.1.keep HL.out.2.2 h8
    have qer := ξ Vc
    have H8 := ξ h8
    clear hL hB hx Vc
    go_wp2
    go_roundw
    case rel => exact ⟨k + 1, by omega, by simp, (qer.out).heap (by exact Below.heap_alloc _ _ _ lg), HL.out.2.1.alloc lB _⟩
    case measure => (simp [RowKit.intOf]) <;> omega
  ·obtain rfl : k = n := by omega
   have HL := ξ (ζ hL hB)
   clear hL hB
   go_wp2
   go_ret
   refine ⟨⟨g, cap', rfl, hg, ⟨HL.out.1.lt, fun i x hx j v hv => ?_⟩⟩, HL.out.2⟩
   rw [List.getElem?_map] at hx
   cases hy : xs[i]? with
   | none => rw [hy] at hx; cases hx
   | some y =>
    rw [hy] at hx; cases hx
    have hj : j < 10 := (Array.getElem?_eq_some_iff.1 hv).1
    rw [Nat.zero_add, HL.out.1.cell hy hj, if_pos (by rw [← qq]; exact (List.getElem?_eq_some_iff.1 hy).1)]
    exact hv
end Go.Proofs.YtjgegohidhdbpaaGreatDoor
