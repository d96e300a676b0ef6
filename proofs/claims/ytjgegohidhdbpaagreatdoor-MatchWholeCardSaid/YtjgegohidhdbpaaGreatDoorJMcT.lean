/- A trial: repeat. -/
import Derived.Test.YtjgegohidhdbpaaGreatDoorJMcO
open Go.Proofs.Tryz
set_option linter.unusedVariables false
set_option linter.unusedSimpArgs false
set_option maxRecDepth 100000
set_option maxHeartbeats 40000000
namespace Go.Proofs.YtjgegohidhdbpaaGreatDoor
open Go.RowKit Go.Maps Go.WideMaps
theorem XB {m M : Int} (h : zr m M = true) : (0 ≤ m ∧ m ≤ 255) ∧ (M = -1 ∨ M ≤ 255) ∧ (M = -1 ∨ 1 ≤ M) := by
 unfold zr at h
 split at h
 ·cases h
 ·have := of_decide_eq_true h
  omega
theorem qgJ {s : List UInt8} {A : Sem} {m M : Int} {a c j : Nat} {had : Cp} (h : ¬ a < j) : zK s A m M (j - a) a c had j = if (c : Int) < m then A.leave j j had else had := by
 cases hf : j - a with
 | zero => rw [zK]
 | succ f => omega
theorem Um {s : List UInt8} {A : Sem} {m M : Int} {a c j : Nat} {had : Cp} (h : a < j) : zK s A m M (j - a) a c had j = match greatest (a + 1) (vE s A m M a c had j) j with | some k => zK s A m M (j - k) k (qO m M c) (A.leave a k had) j | none => if (c : Int) < m then A.leave j j had else had := by
 obtain ⟨f, hf⟩ : ∃ f, j - a = f + 1 := ⟨j - a - 1, by omega⟩
 rw [hf, zK, if_pos h]
 show (match greatest (a + 1) (vE s A m M a c had j) j with | some k => zK s A m M f k (qO m M c) (A.leave a k had) j | none => _) = _
 cases hg : greatest (a + 1) (vE s A m M a c had j) j with
 | none => rfl
 | some k =>
  have := qL hg
  exact U4 f (j - k) k _ _ (by omega) (by omega)
theorem qeA {m M : Int} {u : T} {c : Nat} (hm : 0 ≤ m ∧ m ≤ 255) (hM : M = -1 ∨ M ≤ 255) (h : zz (.times m M u) c) (hcM : (c : Int) ≠ M) : qO m M c ≤ 255 ∧ zz (.times m M u) (qO m M c) := by
 unfold zz qO at *
 simp only at h ⊢
 by_cases VA : M = -1
 ·rw [if_pos VA] at h
  rw [if_pos VA, if_pos VA]
  omega
 ·rw [if_neg VA] at h
  rw [if_neg VA, if_neg VA]
  omega
theorem qbM {s : List UInt8} {A : Sem} {m M : Int} {a c j : Nat} {had : Cp} (hM : M = -1 ∨ 1 ≤ M) (h : a < j) (hj : j ≤ s.length) (hag : c = 0 ∨ zc s A m M (s.length - a) a c had j = true) : (c : Int) ≠ M := by
 rcases hag with e | e
 ·subst e
  intro q
  rw [← q] at hM
  omega
 ·rw [vS (by omega)] at e
  intro q
  simp [q, show j ≠ a by omega] at e
theorem yC {w : World} {b : Nat} {V : Nat → Value} (h : qm w b 10 27 V) (Z : Cp) : zG ((((((((((w.setCell ⟨b, 0, none⟩ (qj (Z 0))).setCell ⟨b, 1, none⟩ (qj (Z 1))).setCell ⟨b, 2, none⟩ (qj (Z 2))).setCell ⟨b, 3, none⟩ (qj (Z 3))).setCell ⟨b, 4, none⟩ (qj (Z 4))).setCell ⟨b, 5, none⟩ (qj (Z 5))).setCell ⟨b, 6, none⟩ (qj (Z 6))).setCell ⟨b, 7, none⟩ (qj (Z 7))).setCell ⟨b, 8, none⟩ (qj (Z 8))).setCell ⟨b, 9, none⟩ (qj (Z 9))) b (cH Z) 27 := by
 have v0 := h.set 0 (qj (Z 0))
 have v1 := v0.set 1 (qj (Z 1))
 have v2 := v1.set 2 (qj (Z 2))
 have v3 := v2.set 3 (qj (Z 3))
 have v4 := v3.set 4 (qj (Z 4))
 have v5 := v4.set 5 (qj (Z 5))
 have v6 := v5.set 6 (qj (Z 6))
 have v7 := v6.set 7 (qj (Z 7))
 have v8 := v7.set 8 (qj (Z 8))
 have v9 := v8.set 9 (qj (Z 9))
 refine ⟨?_⟩
 rw [v9.heap]
 rfl
section
variable {X : Nat} {v : kU} {s : List UInt8} {xs : List Nd} {B : Nat} {c1 : Lit → Nat} {n1 : Nat} {P1 : Lit → Prop} {c2 : Lit → Nat} {n2 : Nat} {M2 : Nat → Prop} {J : (Nat → Prop) → List Lit → World → Prop}
theorem qlU (jx : JX X v s xs B c1 n1 P1 c2 n2 M2 J) (fx : Fx v s xs B P1) (n p j q : Nat) (m M : Int) (u : T) (hn : n < v.n) (hp : p ≤ j) (hj : j ≤ s.length) (hx : xs[n]? = some ⟨6, 0, 0, 0, 0, (q : Int), 0, m, M, 0⟩) (lq : q < v.n) (hc : zr m M = true) (K0 : u.isBytes = none) (Uj : zz u 0) (hSA : vt s.length (qd s u))
  (hEa : ∀ a, p ≤ a → a ≤ j → jI X v s B M2 J q u a) (hEn : ∀ k, p ≤ k → k ≤ j → jI X v s B M2 J n (.times m M u) k)
  (Gu : ∀ a, p ≤ a → a ≤ j → ∀ (had : Cp) (E : Nat → Prop) (es : List Lit) (w : World), qo s.length had → J E es w → (∀ b, E b → b < w.heap.size) → Calls prog 142 #[.pointer (some ⟨X, 0, none⟩), .int .i64 q, .int .i64 n, .int .i64 a, qk had] w fun e w' => ∃ (K : FuncId) (cap : Array Value), e = .returned (.func (.func K) #[] cap) ∧ (∀ S, qb S w w') ∧ ∀ k, a ≤ k → k ≤ s.length → QK v M2 J K cap k (qW (qd s u) (qd s u).asked a had k) E es w')
  (hLe : ∀ a b, p ≤ a → a ≤ b → b ≤ j → kX X v s M2 J q u a b) : RepC X v s M2 J n (.times m M u) p j := by
 intro had E es w qB hJ hE
 have jp := fx.sl
 have XJ := fx.n2
 have XF := fx.B1
 have iv := jx.iv hJ
 obtain ⟨lX, llb, lrb, lbn, lbr, lbl, lw⟩ := iv.lts
 have ZD := ξ (fun b hb => (jx.lt hJ b hb).1)
 have qH : ∀ S, qb S w ((w.alloc (.cells (cH had) 27)).alloc (.cells cZ 27)) := fun S => ((qb.refl S w).alloc _).alloc _
 have zl : ∀ S, qb S w (((w.alloc (.cells (cH had) 27)).alloc (.cells cZ 27)).alloc (.cells (nA 6 0 0 0 0 (q : Int) 0 m M 0) 57)) := fun S => (qH S).alloc _
 have iv2 := iv.keeps (qH _)
 have x0 := iv2.tr.c0
 have d := iv2.nodes.cell n _ hx
 have d_ := zB d
 have vO := ((qc w had).alloc (.cells cZ 27)).alloc (.cells (nA 6 0 0 0 0 (q : Int) 0 m M 0) 57)
 have JE : (((w.alloc (.cells (cH had) 27)).alloc (.cells cZ 27)).alloc (.cells (nA 6 0 0 0 0 (q : Int) 0 m M 0) 57)).heap.size = w.heap.size + 3 := by simp
 obtain ⟨k0, k1, k2, k3, k4, k5, k6, k7, k8, k9⟩ := qc.ten (w := (((w.alloc (.cells (cH had) 27)).alloc (.cells cZ 27)).alloc (.cells (nA 6 0 0 0 0 (q : Int) 0 m M 0) 57))) (b := w.heap.size) (had := had) vO
 have kH : qm (((w.alloc (.cells (cH had) 27)).alloc (.cells cZ 27)).alloc (.cells (nA 6 0 0 0 0 (q : Int) 0 m M 0) 57)) (w.heap.size + 1) 10 27 (fun _ => .complex .f64 0 0) := by
  have := qm.new (w.alloc (.cells (cH had) 27)) 10 27 (fun _ => .complex .f64 0 0)
  rw [World.size_alloc] at this
  exact ⟨heap_alloc _ this.heap⟩
 have Yk : zG (((w.alloc (.cells (cH had) 27)).alloc (.cells cZ 27)).alloc (.cells (nA 6 0 0 0 0 (q : Int) 0 m M 0) 57)) (w.heap.size + 2) (nA 6 0 0 0 0 (q : Int) 0 m M 0) 57 := by
  have := zG.new ((w.alloc (.cells (cH had) 27)).alloc (.cells cZ 27)) (nA 6 0 0 0 0 (q : Int) 0 m M 0) 57
  rw [World.size_alloc, World.size_alloc] at this
  exact this
 have vw : J (fun b => E b ∨ (w.heap.size ≤ b ∧ b < w.heap.size + 3)) es (((w.alloc (.cells (cH had) 27)).alloc (.cells cZ 27)).alloc (.cells (nA 6 0 0 0 0 (q : Int) 0 m M 0) 57)) := jx.mono (jx.keeps (jx.fresh hJ) (zl _)) (fun b hb => hb.imp id (fun e => e.1))
 have VB : ∀ b, (E b ∨ (w.heap.size ≤ b ∧ b < w.heap.size + 3)) → b < (((w.alloc (.cells (cH had) 27)).alloc (.cells cZ 27)).alloc (.cells (nA 6 0 0 0 0 (q : Int) 0 m M 0) 57)).heap.size := fun b hb => by
  rw [JE]
  rcases hb with hb | hb
  ·have := hE b hb; omega
  ·omega
 have kz : ∀ b, w.heap.size ≤ b → ¬ (Mt v b ∨ M2 b) := fun b hb e => by
  rcases e with e | e
  ·rcases e with e | e | e <;> omega
  ·have := ZD.out b e; omega
 have HX := ξ jx
 have HE := ξ hE
 have Qe := ξ qB
 have Zp := ξ zl
 have Zt := ξ (ζ vO (ζ kH Yk))
 have kM := ξ (ζ vw VB)
 have kD := ξ kz
 have qQ := fx.B3
 obtain ⟨hm, hMx, hMn⟩ := XB hc
 have hcn0 : zz (.times m M u) 0 := by
  unfold zz
  simp only
  split <;> omega
 have HEN := ξ (fun (k c : Nat) (hd : Cp) (i : Nat) => (show (qd s (.times m M u)).ends k c hd i = zc s (qd s u) m M (s.length - k) k c hd i from by simp only [qd, jR, K0]))
 have qaF : Hid ((qd s (.times m M u)).walk p j had = zK s (qd s u) m M (j - p) p 0 had j) := ξ rfl
 have HEA := ξ hEa
 have HENC := ξ hEn
 have HLV := ξ Gu
 have HLE := ξ hLe
 have YD := ξ hSA
 have HA0 := ξ (ζ Uj (ζ hcn0 (ζ hMx hMn)))
 clear hEa hEn Gu hLe hSA hc K0 hx Uj hcn0 hMx hMn
 clear d qH zl iv iv2 vO kH Yk hJ vw hE VB qB kz jx JE
 unfold qk
 go_enter func126, ntmps126
 go_wp2
 go_step3
 go_wp2
 go_step3
 go_wp2
 clear k0 k1 k2 k3 k4 k5 k6 k7 k8 k9
 go_loopg [2, 12] (j - p) (fun g av cv wr => ∃ (a c : Nat) (h1 : Cp) (gs : List Lit), av = .int .i64 a ∧ cv = .int .i64 c ∧ g = j - a ∧ p ≤ a ∧ a ≤ j ∧ qo s.length h1 ∧ c ≤ 255 ∧ zz (.times m M u) c ∧ (c = 0 ∨ zc s (qd s u) m M (s.length - a) a c h1 j = true) ∧ zK s (qd s u) m M (j - p) p 0 had j = zK s (qd s u) m M (j - a) a c h1 j ∧ es <+: gs ∧ J (fun b => E b ∨ (w.heap.size ≤ b ∧ b < w.heap.size + 3)) gs wr ∧ zG wr w.heap.size (cH h1) 27 ∧ qm wr (w.heap.size + 1) 10 27 (fun _ => .complex .f64 0 0) ∧ zG wr (w.heap.size + 2) (nA 6 0 0 0 0 (q : Int) 0 m M 0) 57 ∧ qb (fun b => (Mt v b ∨ M2 b) ∨ b = w.heap.size) (((w.alloc (.cells (cH had) 27)).alloc (.cells cZ 27)).alloc (.cells (nA 6 0 0 0 0 (q : Int) 0 m M 0) 57)) wr)
 case atStart => exact ⟨p, 0, had, es, rfl, rfl, rfl, Nat.le_refl _, hp, Qe.out, by omega, HA0.out.2.1, .inl rfl, rfl, List.prefix_refl _, kM.out.1, Zt.out.1, Zt.out.2.1, Zt.out.2.2, qb.refl _ _⟩
 case round =>
  obtain ⟨a, c, h1, gs, rfl, rfl, hg, GY, haj, yp, hc255, XG, hag, hrw, qJ, QW, hBr, hRr, hNr, hK⟩ := hrel
  obtain ⟨ga, rfl⟩ : ∃ x, x = gk := ⟨_, rfl⟩
  obtain ⟨wa, rfl⟩ : ∃ x, x = wr := ⟨_, rfl⟩
  have lr : w.heap.size + 3 ≤ wa.heap.size := by have := hK.size; simp at this; omega
  have hEr : ∀ b, (E b ∨ (w.heap.size ≤ b ∧ b < w.heap.size + 3)) → b < wa.heap.size := fun b hb => Nat.lt_of_lt_of_le (kM.out.2 b hb) hK.size
  have jC : qb (fun b => Mt v b ∨ M2 b) w wa := (Zp.out _).trans2 hK (fun i hi e => e.elim id (fun e => absurd e (by omega)))
  have k0 : wa.cell? ⟨w.heap.size, 0, none⟩ = some (qj (h1 0)) := qc.at (had := h1) hBr 0 (by decide)
  have k1 : wa.cell? ⟨w.heap.size, 1, none⟩ = some (qj (h1 1)) := qc.at (had := h1) hBr 1 (by decide)
  have k2 : wa.cell? ⟨w.heap.size, 2, none⟩ = some (qj (h1 2)) := qc.at (had := h1) hBr 2 (by decide)
  have k3 : wa.cell? ⟨w.heap.size, 3, none⟩ = some (qj (h1 3)) := qc.at (had := h1) hBr 3 (by decide)
  have k4 : wa.cell? ⟨w.heap.size, 4, none⟩ = some (qj (h1 4)) := qc.at (had := h1) hBr 4 (by decide)
  have k5 : wa.cell? ⟨w.heap.size, 5, none⟩ = some (qj (h1 5)) := qc.at (had := h1) hBr 5 (by decide)
  have k6 : wa.cell? ⟨w.heap.size, 6, none⟩ = some (qj (h1 6)) := qc.at (had := h1) hBr 6 (by decide)
  have k7 : wa.cell? ⟨w.heap.size, 7, none⟩ = some (qj (h1 7)) := qc.at (had := h1) hBr 7 (by decide)
  have k8 : wa.cell? ⟨w.heap.size, 8, none⟩ = some (qj (h1 8)) := qc.at (had := h1) hBr 8 (by decide)
  have k9 : wa.cell? ⟨w.heap.size, 9, none⟩ = some (qj (h1 9)) := qc.at (had := h1) hBr 9 (by decide)
  obtain ⟨m0, m1, m2, m3, m4, m5, m6, m7, m8, m9⟩ := j9 hNr
  by_cases zb : a < j
  ·have hltI : (a : Int) < (j : Int) := by omega
   have qh := HLV.out a GY haj h1 _ gs wa yp QW hEr
   unfold qk at qh
   have qp := ξ qh
   have H1 := ξ (ζ qJ (ζ hBr (ζ hRr (ζ hNr (ζ jC (ζ hEr (ζ hK QW)))))))
   have qjF := ξ (ζ XG (ζ hag (ζ hrw hg)))
   have hcM := qbM HA0.out.2.2.2 zb hj hag
   have ZN := ξ (qeA hm HA0.out.2.2.1 XG hcM)
   clear qh qJ hBr hRr hNr jC hEr hK XG hag hrw hg QW hcM
   go_wp2_with fail
   refine qp.out.mono ?_
   rintro e w4 ⟨K, cap, rfl, vn, Un⟩
   have Qr := H1.out.2.1.keeps (vn (fun _ => False)) id
   have YE := H1.out.2.2.2.1.keeps (vn (fun _ => False)) id
   have VS : qm w4 (w.heap.size + 1) 10 27 (fun _ => .complex .f64 0 0) := ⟨((vn (fun _ => False)).block _ H1.out.2.2.1.lt id).trans H1.out.2.2.1.heap⟩
   clear k0 k1 k2 k3 k4 k5 k6 k7 k8 k9 m0 m1 m2 m3 m4 m5 m6 m7 m8 m9 qp
   have m5 : w4.cell? ⟨w.heap.size + 2, 5, none⟩ = some (.int .i64 (q : Int)) := YE.cell 5
   have l4 : w.heap.size + 3 ≤ w4.heap.size := by have := (vn (fun _ => False)).size; omega
   have k0 : w4.cell? ⟨w.heap.size, 0, none⟩ = some (qj (h1 0)) := qc.at (had := h1) Qr 0 (by decide)
   have k1 : w4.cell? ⟨w.heap.size, 1, none⟩ = some (qj (h1 1)) := qc.at (had := h1) Qr 1 (by decide)
   have k2 : w4.cell? ⟨w.heap.size, 2, none⟩ = some (qj (h1 2)) := qc.at (had := h1) Qr 2 (by decide)
   have k3 : w4.cell? ⟨w.heap.size, 3, none⟩ = some (qj (h1 3)) := qc.at (had := h1) Qr 3 (by decide)
   have k4 : w4.cell? ⟨w.heap.size, 4, none⟩ = some (qj (h1 4)) := qc.at (had := h1) Qr 4 (by decide)
   have k5 : w4.cell? ⟨w.heap.size, 5, none⟩ = some (qj (h1 5)) := qc.at (had := h1) Qr 5 (by decide)
   have k6 : w4.cell? ⟨w.heap.size, 6, none⟩ = some (qj (h1 6)) := qc.at (had := h1) Qr 6 (by decide)
   have k7 : w4.cell? ⟨w.heap.size, 7, none⟩ = some (qj (h1 7)) := qc.at (had := h1) Qr 7 (by decide)
   have k8 : w4.cell? ⟨w.heap.size, 8, none⟩ = some (qj (h1 8)) := qc.at (had := h1) Qr 8 (by decide)
   have k9 : w4.cell? ⟨w.heap.size, 9, none⟩ = some (qj (h1 9)) := qc.at (had := h1) Qr 9 (by decide)
   have KN := HX.out.keeps H1.out.2.2.2.2.2.2.2 (vn _)
   have hE4 : ∀ b, (E b ∨ (w.heap.size ≤ b ∧ b < w.heap.size + 3)) → b < w4.heap.size := fun b hb => Nat.lt_of_lt_of_le (H1.out.2.2.2.2.2.1 b hb) (vn (fun _ => False)).size
   have qh := HEA.out a GY haj 0 h1 _ gs w4 (by omega) HA0.out.1 yp KN hE4
   unfold qk PV at qh
   have qp := ξ qh
   have H4 := ξ (ζ Qr (ζ YE (ζ VS (ζ hE4 (H1.out.2.2.2.2.1.trans (vn (fun b => Mt v b ∨ M2 b)))))))
   have HLC := ξ Un
   have HK4 := ξ vn
   clear qh Qr YE VS KN hE4 vn Un
   go_wp2_with fail
   refine qp.out.mono ?_
   rintro e w5 ⟨b, fs, rfl, Vo, hbE, qeq, JT, hbM, vi, Kg, vH⟩
   have HUP := ξ (fun (q : Nat) (hq : q ≤ s.length) (W : World) (h : qI W b (s.length / 64 + 1) (fun i => (qd s u).ends a 0 h1 i)) => Gf b (s.length / 64 + 1) (s.length / 64 + 1) q _ (by omega) (by omega) W h)
   have hup := HUP.out j hj w5 Vo
   have qeC := ξ hup
   have l5 : w.heap.size + 3 ≤ w5.heap.size := by have := vH.size; omega
   have H5 := ξ (ζ Vo (ζ Kg (ζ vH vi)))
   have Uo : Hid (¬ (Mt v b ∨ M2 b)) := ξ (fun e => e.elim hbM JT)
   clear hup Vo Kg vH vi hbM JT hbE m5 k0 k1 k2 k3 k4 k5 k6 k7 k8 k9 qp
   go_wp2_with fail
   refine qeC.out.mono ?_
   rintro e w6 ⟨⟨r, rfl, hr⟩, rfl⟩
   have HR := ξ hr
   clear hr qeC
   go_wp2
   go_loopg [2, 12, 15] ((r + 1).toNat) (fun g av cv kv wr => ∃ (r2 q2 : Int) (gz : List Lit), av = .int .i64 a ∧ cv = .int .i64 c ∧ kv = .int .i64 r2 ∧ g = (r2 + 1).toNat ∧ q2 ≤ j ∧ XW (fun i => (qd s u).ends a 0 h1 i) q2 r2 ∧ (∀ k : Nat, q2 < (k : Int) → k ≤ j → vE s (qd s u) m M a c h1 j k = false) ∧ fs <+: gz ∧ J (fun b => E b ∨ (w.heap.size ≤ b ∧ b < w.heap.size + 3)) gz wr ∧ qb (fun b => Mt v b ∨ M2 b) w6 wr)
   case atStart => exact ⟨r, j, fs, rfl, rfl, rfl, rfl, Int.le_refl _, HR.out, fun k h1 h2 => by omega, List.prefix_refl _, H5.out.2.1, qb.refl _ _⟩
   case round =>
    obtain ⟨r2, q2, gz, rfl, rfl, rfl, hg2, hqj, Qo, XC, qJ, QW, hK⟩ := hrel
    have XS : qb (fun b => Mt v b ∨ M2 b) w4 wr := H5.out.2.2.1.trans hK
    have lw4 : w4.heap.size ≤ wr.heap.size := XS.size
    have br := H4.out.1.keeps XS (kD.out _ (by omega))
    have nr := H4.out.2.1.keeps XS (kD.out _ (by omega))
    have rr : qm wr (w.heap.size + 1) 10 27 (fun _ => .complex .f64 0 0) := ⟨(XS.block _ H4.out.2.2.1.lt (kD.out _ (by omega))).trans H4.out.2.2.1.heap⟩
    have Vp : qI wr b (s.length / 64 + 1) (fun i => (qd s u).ends a 0 h1 i) := H5.out.1.keeps hK Uo.out
    have hEr : ∀ b, (E b ∨ (w.heap.size ≤ b ∧ b < w.heap.size + 3)) → b < wr.heap.size := fun b hb => Nat.lt_of_lt_of_le (H4.out.2.2.2.1 b hb) XS.size
    have hpr := (H1.out.1.trans H5.out.2.2.2).trans qJ
    have jC := H4.out.2.2.2.2.trans XS
    have k0 : wr.cell? ⟨w.heap.size, 0, none⟩ = some (qj (h1 0)) := qc.at (had := h1) br 0 (by decide)
    have k1 : wr.cell? ⟨w.heap.size, 1, none⟩ = some (qj (h1 1)) := qc.at (had := h1) br 1 (by decide)
    have k2 : wr.cell? ⟨w.heap.size, 2, none⟩ = some (qj (h1 2)) := qc.at (had := h1) br 2 (by decide)
    have k3 : wr.cell? ⟨w.heap.size, 3, none⟩ = some (qj (h1 3)) := qc.at (had := h1) br 3 (by decide)
    have k4 : wr.cell? ⟨w.heap.size, 4, none⟩ = some (qj (h1 4)) := qc.at (had := h1) br 4 (by decide)
    have k5 : wr.cell? ⟨w.heap.size, 5, none⟩ = some (qj (h1 5)) := qc.at (had := h1) br 5 (by decide)
    have k6 : wr.cell? ⟨w.heap.size, 6, none⟩ = some (qj (h1 6)) := qc.at (had := h1) br 6 (by decide)
    have k7 : wr.cell? ⟨w.heap.size, 7, none⟩ = some (qj (h1 7)) := qc.at (had := h1) br 7 (by decide)
    have k8 : wr.cell? ⟨w.heap.size, 8, none⟩ = some (qj (h1 8)) := qc.at (had := h1) br 8 (by decide)
    have k9 : wr.cell? ⟨w.heap.size, 9, none⟩ = some (qj (h1 9)) := qc.at (had := h1) br 9 (by decide)
    obtain ⟨m0, m1, m2, m3, m4, m5, m6, m7, m8, m9⟩ := j9 nr
    by_cases hrp : (a : Int) < r2
    ·rcases Qo with ⟨rfl, _⟩ | ⟨k, rfl, zO, qH, zl⟩
     ·omega
     have hkp : a < k := by omega
     have Jl : k ≤ j := by omega
     obtain ⟨qbN, YF⟩ := HLC.out k (by omega) (by omega)
     obtain ⟨QY, VV⟩ : ∃ d, d = qW (qd s u) (qd s u).asked a h1 k := ⟨_, rfl⟩
     rw [← VV] at YF
     have hcd : qo s.length QY := by rw [VV]; exact YD.out.left_cap yp (by omega) (by omega)
     obtain ⟨c', kZ⟩ : ∃ c', c' = qO m M c := ⟨_, rfl⟩
     have qeD : vE s (qd s u) m M a c h1 j k = (qd s (.times m M u)).ends k c' QY j := by
      rw [HEN.out, kZ, VV]
      show ((qd s u).ends a 0 h1 k && _) = _
      rw [show (qd s u).ends a 0 h1 k = true from qH, Bool.true_and]
     have Uk : c' ≤ 255 ∧ zz (.times m M u) c' := by rw [kZ]; exact ZN.out
     have hcb := Uk.1
     have j6 : ∀ W : World, Calls prog 143 #[.agg (nA 6 0 0 0 0 (q : Int) 0 m M 0), .int .i64 c] W fun e w' => e = .returned (.int .i64 (c' : Nat)) ∧ Below W.heap.size W w' := fun W => by
      have := Zh ⟨6, 0, 0, 0, 0, (q : Int), 0, m, M, 0⟩ c (by omega) hm W
      rw [kZ]
      exact this
     have Jd := ξ j6
     have ql1 := ξ YF
     have qgL := ξ qbN
     have vC := ξ (ζ br (ζ nr (ζ rr (ζ Vp (ζ hEr (ζ hpr jC))))))
     have HQ := ξ (ζ XC (ζ qH (ζ zl (ζ hcd (ζ qeD (ζ hK qJ))))))
     have HC2 := ξ (ζ Uk.2 (ζ kZ (ζ VV (ζ XS QW))))
     have hkI : (0 : Int) ≤ (k : Int) := by omega
     clear j6 YF qbN br nr rr Vp hEr hpr jC XC qH zl hcd qeD hK qJ Uk kZ VV XS QW
     go_wp2_with fail
     refine (Jd.out _).mono ?_
     rintro e w7 ⟨rfl, hB7⟩
     clear k0 k1 k2 k3 k4 k5 k6 k7 k8 k9 m0 m1 m2 m3 m4 m5 m6 m7 m8 m9
     have Jg : ∀ S, qb S wr w7 := fun S => qb.of_below hB7
     have YU := ql1.out gz w7 (H5.out.2.2.2.trans HQ.out.2.2.2.2.2.2) (HX.out.keeps HC2.out.2.2.2.2 (Jg _)) ((HC2.out.2.2.2.1.mono (fun i _ e => .inl e)).trans (Jg _))
     have HL1 := ξ YU
     have HK7 := ξ Jg
     have qeE := qgL.out
     clear YU hB7 Jg
     go_wp2_with fail
     refine HL1.out.mono ?_
     rintro e w8 ⟨g2, rfl, yk, ZI, Qv⟩
     have qjG : qb (fun b => Mt v b ∨ M2 b) wr w8 := (HK7.out _).trans Qv
     have hE8 : ∀ b, (E b ∨ (w.heap.size ≤ b ∧ b < w.heap.size + 3)) → b < w8.heap.size := fun b hb => Nat.lt_of_lt_of_le (vC.out.2.2.2.2.1 b hb) qjG.size
     have qh := HENC.out k (by omega) Jl c' QY _ g2 w8 (by omega) HC2.out.1 HQ.out.2.2.2.1 ZI hE8
     unfold qk PV at qh
     have qp := ξ qh
     have H8 := ξ (ζ yk qjG)
     clear qh yk ZI Qv qjG hE8 qeE HL1
     go_wp2_with fail
     refine qp.out.mono ?_
     rintro e w9 ⟨b2, g3, rfl, zk, _, _, _, _, QR, VR, Xv⟩
     have Gz := H8.out.2.trans Xv
     have HM := ξ (ζ (H8.out.1.trans QR) (ζ VR Gz))
     have QQ := ξ (Ys b2 (s.length / 64 + 1) (s.length / 64 + 1) j _ (by omega) (by omega) w9 zk)
     have lL : w.heap.size + 3 ≤ w9.heap.size := by have := Gz.size; omega
     clear zk QR VR Xv Gz qp
     go_wp2_with fail
     refine QQ.out.mono ?_
     rintro e wL ⟨rfl, rfl⟩
     clear QQ
     have br := vC.out.1.keeps HM.out.2.2 (kD.out _ (by omega))
     have nr := vC.out.2.1.keeps HM.out.2.2 (kD.out _ (by omega))
     have rr : qm wL (w.heap.size + 1) 10 27 (fun _ => .complex .f64 0 0) := ⟨(HM.out.2.2.block _ vC.out.2.2.1.lt (kD.out _ (by omega))).trans vC.out.2.2.1.heap⟩
     have YG : qI wL b (s.length / 64 + 1) (fun i => (qd s u).ends a 0 h1 i) := vC.out.2.2.2.1.keeps HM.out.2.2 Uo.out
     have hEL : ∀ b, (E b ∨ (w.heap.size ≤ b ∧ b < w.heap.size + 3)) → b < wL.heap.size := fun b hb => Nat.lt_of_lt_of_le (vC.out.2.2.2.2.1 b hb) HM.out.2.2.size
     cases hq : (qd s (.times m M u)).ends k c' QY j with
     | false =>
      have qeF : Hid (Calls prog 43 #[.slice (some ⟨b, 0, none⟩) (s.length / 64 + 1) (s.length / 64 + 1), .int .i64 ((k : Int) - 1)] wL fun e w' => (∃ r, e = .returned (.int .i64 r) ∧ XW (fun i => (qd s u).ends a 0 h1 i) ((k : Int) - 1) r) ∧ w' = wL) := by
       refine ξ ?_
       have := HUP.out (k - 1) (by omega) wL YG
       rw [show ((k - 1 : Nat) : Int) = (k : Int) - 1 by omega] at this
       exact this
      have XH : vE s (qd s u) m M a c h1 j k = false := by rw [HQ.out.2.2.2.2.1]; exact hq
      have HCK := ξ XH
      clear XH hq br nr rr YG hEL
      go_wp2_with fail
      refine qeF.out.mono ?_
      rintro e wK ⟨⟨r3, rfl, kH⟩, rfl⟩
      have HR3 := ξ kH
      have VS : r3 < (k : Int) := by
       rcases kH with ⟨e, _⟩ | ⟨k', e, h, _⟩
       ·omega
       ·omega
      clear kH qeF
      go_wp2
      go_roundg ((r3 + 1).toNat)
      case measure => omega
      case rel =>
       refine ⟨r3, (k : Int) - 1, g3, rfl, rfl, rfl, rfl, by omega, HR3.out, fun i z1 z2 => ?_, HQ.out.2.2.2.2.2.2.trans HM.out.1, HM.out.2.1, HQ.out.2.2.2.2.2.1.trans HM.out.2.2⟩
       rcases (by omega : i = k ∨ k < i) with q1 | q1
       ·subst q1; exact HCK.out
       ·rcases (by omega : (i : Int) ≤ q2 ∨ q2 < i) with q3 | q3
        ·show ((qd s u).ends a 0 h1 i && _) = false
         rw [show (qd s u).ends a 0 h1 i = false from HQ.out.2.2.1 i q1 q3]; rfl
        ·exact HQ.out.1 i q3 z2
     | true =>
      have XH : vE s (qd s u) m M a c h1 j k = true := by rw [HQ.out.2.2.2.2.1]; exact hq
      have QD : greatest (a + 1) (vE s (qd s u) m M a c h1 j) j = some k := Vi (by omega) Jl XH (fun i z1 z2 => by
       rcases (by omega : (i : Int) ≤ q2 ∨ q2 < i) with q3 | q3
       ·show ((qd s u).ends a 0 h1 i && _) = false
        rw [show (qd s u).ends a 0 h1 i = false from HQ.out.2.2.1 i z1 q3]; rfl
       ·exact HQ.out.1 i q3 z2)
      obtain ⟨Z1, hZ1⟩ : ∃ Z, Z = (qd s u).leave a k h1 := ⟨_, rfl⟩
      have kF : qo s.length Z1 := by rw [hZ1]; exact YD.out.leave_cap yp (by omega) (by omega)
      have hag2 : zc s (qd s u) m M (s.length - k) k c' Z1 j = true := by
       have e1 := hq
       rw [HEN.out] at e1
       rw [Za YD.out (s.length - k) k c' Z1 QY kF HQ.out.2.2.2.1 (by omega) (by rw [hZ1, HC2.out.2.2.1]; exact KO YD.out (fun g hg => YD.out.ten g (.inl hg)))]
       exact e1
      have hrw2 : zK s (qd s u) m M (j - p) p 0 had j = zK s (qd s u) m M (j - k) k c' Z1 j := by
       rw [qjF.out.2.2.1, Um zb, QD, hZ1, HC2.out.2.1]
      have hcl := HLE.out a k GY (by omega) Jl h1 _ g3 wL yp HM.out.2.1 hEL
      rw [← hZ1] at hcl
      unfold qk at hcl
      have HCL := ξ hcl
      have HZ := ξ (ζ kF (ζ hag2 hrw2))
      have HRR := ξ (ζ br (ζ nr rr))
      have k0 : wL.cell? ⟨w.heap.size, 0, none⟩ = some (qj (h1 0)) := qc.at (had := h1) br 0 (by decide)
      have k1 : wL.cell? ⟨w.heap.size, 1, none⟩ = some (qj (h1 1)) := qc.at (had := h1) br 1 (by decide)
      have k2 : wL.cell? ⟨w.heap.size, 2, none⟩ = some (qj (h1 2)) := qc.at (had := h1) br 2 (by decide)
      have k3 : wL.cell? ⟨w.heap.size, 3, none⟩ = some (qj (h1 3)) := qc.at (had := h1) br 3 (by decide)
      have k4 : wL.cell? ⟨w.heap.size, 4, none⟩ = some (qj (h1 4)) := qc.at (had := h1) br 4 (by decide)
      have k5 : wL.cell? ⟨w.heap.size, 5, none⟩ = some (qj (h1 5)) := qc.at (had := h1) br 5 (by decide)
      have k6 : wL.cell? ⟨w.heap.size, 6, none⟩ = some (qj (h1 6)) := qc.at (had := h1) br 6 (by decide)
      have k7 : wL.cell? ⟨w.heap.size, 7, none⟩ = some (qj (h1 7)) := qc.at (had := h1) br 7 (by decide)
      have k8 : wL.cell? ⟨w.heap.size, 8, none⟩ = some (qj (h1 8)) := qc.at (had := h1) br 8 (by decide)
      have k9 : wL.cell? ⟨w.heap.size, 9, none⟩ = some (qj (h1 9)) := qc.at (had := h1) br 9 (by decide)
      have m5 : wL.cell? ⟨w.heap.size + 2, 5, none⟩ = some (.int .i64 (q : Int)) := nr.cell 5
      clear XH QD hZ1 kF hag2 hrw2 hcl hq br nr rr YG hEL
      go_wp2_with fail
      refine HCL.out.mono ?_
      rintro e wP ⟨g4, rfl, vA, KN, hkP⟩
      clear k0 k1 k2 k3 k4 k5 k6 k7 k8 k9 m5
      have hbP := HRR.out.1.keeps hkP (kD.out _ (by omega))
      have hnP := HRR.out.2.1.keeps hkP (kD.out _ (by omega))
      have hrP : qm wP (w.heap.size + 1) 10 27 (fun _ => .complex .f64 0 0) := ⟨(hkP.block _ HRR.out.2.2.lt (kD.out _ (by omega))).trans HRR.out.2.2.heap⟩
      have hvP : qm wP w.heap.size 10 27 (fun i => qj (h1 i)) := ⟨hbP.heap⟩
      have hbS := yC hvP Z1
      obtain ⟨r0, r1, r2, r3, r4, r5, r6, r7, r8, r9, f0, f1, f2, f3, f4, f5, f6, f7, f8, f9⟩ := hvP.rf10
      have zI := ξ (kn (w := wP) (b := w.heap.size) Z1)
      have za := ξ (qV (w := wP) (b := w.heap.size) hvP Z1)
      clear hvP
      have hnS := hnP.keeps zI.out (by omega)
      obtain ⟨m0, m1, m2, m3, m4, m5, m6, m7, m8, m9⟩ := j9 hnS
      have hrS : qm (UV wP w.heap.size Z1) (w.heap.size + 1) 10 27 (fun _ => .complex .f64 0 0) := ⟨(zI.out.block _ hrP.lt (by omega)).trans hrP.heap⟩
      have HS := ξ (ζ hbS (ζ hnS (ζ hrS (ζ vA (ζ KN hkP)))))
      have lP : w.heap.size + 3 ≤ wP.heap.size := by have := hkP.size; omega
      clear hbP hnP hrP hbS hnS hrS vA KN hkP za
      go_wp2_with fail
      refine (Jd.out _).mono ?_
      rintro e wQ ⟨rfl, hBQ⟩
      have HKQ := ξ (fun S => qb.of_below (S := S) hBQ)
      clear hBQ m0 m1 m2 m3 m4 m5 m6 m7 m8 m9
      go_wp2
      go_roundg (j - k)
      case measure => have := qjF.out.2.2.2; omega
      case rel =>
       have hkS : qb (fun b => (Mt v b ∨ M2 b) ∨ b = w.heap.size) wL wQ := ((HS.out.2.2.2.2.2.mono (fun i _ e => .inl e)).trans (zI.out.mono (fun i _ e => .inr e))).trans (HKQ.out _)
       refine ⟨k, c', Z1, g4, rfl, rfl, rfl, by omega, Jl, HZ.out.1, by omega, HC2.out.1, .inr HZ.out.2.1, HZ.out.2.2, ((vC.out.2.2.2.2.2.1.trans HM.out.1).trans HS.out.2.2.2.1), HX.out.keeps (HX.out.keeps HS.out.2.2.2.2.1 (zI.out.mono (fun i _ e => .inr (by subst e; omega)))) (HKQ.out _), HS.out.1.keeps (HKQ.out (fun _ => False)) id, ?_, HS.out.2.1.keeps (HKQ.out (fun _ => False)) id, ?_⟩
       ·exact ⟨((HKQ.out (fun _ => False)).block _ HS.out.2.2.1.lt id).trans HS.out.2.2.1.heap⟩
       ·refine qb.trans ?_ hkS
        exact (((H1.out.2.2.2.2.2.2.1.trans (HK4.out _)).trans (HC2.out.2.2.2.1.mono (fun i _ e => .inl e))).trans (HM.out.2.2.mono (fun i _ e => .inl e)))
    ·have QD : greatest (a + 1) (vE s (qd s u) m M a c h1 j) j = none := Vh (fun i z1 z2 => by
      rcases (by omega : (i : Int) ≤ q2 ∨ q2 < i) with q3 | q3
      ·show ((qd s u).ends a 0 h1 i && _) = false
       have : (qd s u).ends a 0 h1 i = false := by
        rcases Qo with ⟨_, hz⟩ | ⟨k, Vu, _, _, zl⟩
        ·exact hz i q3
        ·exact zl i (by omega) q3
       rw [this]; rfl
      ·exact XC i q3 z2)
     have yF : zK s (qd s u) m M (j - p) p 0 had j = if (c : Int) < m then (qd s u).leave j j h1 else h1 := by
      rw [qjF.out.2.2.1, Um zb, QD]
     have brE := br
     have nrE := nr
     have rrE := rr
     have hJE := QW
     have Kj := hpr
     have hEE := hEr
     have hkE := jC
     clear QD br nr rr QW hpr hEr jC XC Qo XS Vp hK qJ
     have lE : w.heap.size + 3 ≤ wr.heap.size := by have := rrE.lt; have := nrE.lt; omega
     clear k0 k1 k2 k3 k4 k5 k6 k7 k8 k9 m0 m1 m2 m3 m4 m5 m6 m7 m8 m9
     have k0 : wr.cell? ⟨w.heap.size, 0, none⟩ = some (qj (h1 0)) := qc.at (had := h1) brE 0 (by decide)
     have k1 : wr.cell? ⟨w.heap.size, 1, none⟩ = some (qj (h1 1)) := qc.at (had := h1) brE 1 (by decide)
     have k2 : wr.cell? ⟨w.heap.size, 2, none⟩ = some (qj (h1 2)) := qc.at (had := h1) brE 2 (by decide)
     have k3 : wr.cell? ⟨w.heap.size, 3, none⟩ = some (qj (h1 3)) := qc.at (had := h1) brE 3 (by decide)
     have k4 : wr.cell? ⟨w.heap.size, 4, none⟩ = some (qj (h1 4)) := qc.at (had := h1) brE 4 (by decide)
     have k5 : wr.cell? ⟨w.heap.size, 5, none⟩ = some (qj (h1 5)) := qc.at (had := h1) brE 5 (by decide)
     have k6 : wr.cell? ⟨w.heap.size, 6, none⟩ = some (qj (h1 6)) := qc.at (had := h1) brE 6 (by decide)
     have k7 : wr.cell? ⟨w.heap.size, 7, none⟩ = some (qj (h1 7)) := qc.at (had := h1) brE 7 (by decide)
     have k8 : wr.cell? ⟨w.heap.size, 8, none⟩ = some (qj (h1 8)) := qc.at (had := h1) brE 8 (by decide)
     have k9 : wr.cell? ⟨w.heap.size, 9, none⟩ = some (qj (h1 9)) := qc.at (had := h1) brE 9 (by decide)
     have m5 : wr.cell? ⟨w.heap.size + 2, 5, none⟩ = some (.int .i64 (q : Int)) := nrE.cell 5
     have m7 : wr.cell? ⟨w.heap.size + 2, 7, none⟩ = some (.int .i64 m) := nrE.cell 7
     by_cases Vv : (c : Int) < m
     ·obtain ⟨Z, hZ⟩ : ∃ Z, Z = (qd s u).leave j j h1 := ⟨_, rfl⟩
      rw [if_pos Vv, ← hZ] at yF
      have qh := HLE.out j j hp (Nat.le_refl _) (Nat.le_refl _) h1 _ gz wr yp hJE hEE
      rw [← hZ] at qh
      unfold qk at qh
      have qp := ξ qh
      have HZF := ξ yF
      have HPE := ξ (ζ Kj (ζ hkE (ζ rrE hJE)))
      clear qh hZ yF Kj hkE rrE hJE brE nrE hEE
      go_wp2_with fail
      refine qp.out.mono ?_
      rintro e wE ⟨gE, rfl, QR, VR, Xv⟩
      have GA : qm wE (w.heap.size + 1) 10 27 (fun _ => .complex .f64 0 0) := ⟨(Xv.block _ HPE.out.2.2.1.lt (kD.out _ (by omega))).trans HPE.out.2.2.1.heap⟩
      have qR := ξ (ζ (HPE.out.1.trans QR) (ζ VR (HPE.out.2.1.trans Xv)))
      have lE2 : w.heap.size + 3 ≤ wE.heap.size := by have := Xv.size; omega
      clear QR VR Xv qp m5 m7 k0 k1 k2 k3 k4 k5 k6 k7 k8 k9
      obtain ⟨r0, r1, r2, r3, r4, r5, r6, r7, r8, r9, f0, f1, f2, f3, f4, f5, f6, f7, f8, f9⟩ := GA.rf10
      have zI := ξ (kn (w := wE) (b := w.heap.size + 1) Z)
      have za := ξ (qV (w := wE) (b := w.heap.size + 1) GA Z)
      clear GA
      go_wp2
      (try rw [Exit.noGoto_ret])
      obtain ⟨s0, s1, s2, s3, s4, s5, s6, s7, s8, s9⟩ := za.out
      first
      | refine bodyPost_ret (v := .agg (cH Z)) (by simp [results, results126, go_sem, s0, s1, s2, s3, s4, s5, s6, s7, s8, s9]) rfl ⟨gE, ?_, qR.out.1, HX.out.mono (HX.out.keeps qR.out.2.1 (zI.out.mono (fun i _ e => .inr (by subst e; omega)))) (fun b hb => .inl hb), qR.out.2.2.trans2 zI.out (fun i hi e => by omega)⟩
      | refine bodyPost_ret (v := .agg (cH Z)) (by simp [results, results126, go_sem, s0, s1, s2, s3, s4, s5, s6, s7, s8, s9]) rfl ⟨?_, gE, qR.out.1, HX.out.mono (HX.out.keeps qR.out.2.1 (zI.out.mono (fun i _ e => .inr (by subst e; omega)))) (fun b hb => .inl hb), qR.out.2.2.trans2 zI.out (fun i hi e => by omega)⟩
      show Ending.returned (qk Z) = Ending.returned (qk ((qd s (.times m M u)).walk p j had))
      rw [qaF.out, HZF.out]
     ·rw [if_neg Vv] at yF
      have GA := rrE
      have HZF := ξ yF
      have qR := ξ (ζ Kj (ζ hJE hkE))
      clear yF Kj hJE hkE rrE brE nrE hEE m5
      obtain ⟨r0, r1, r2, r3, r4, r5, r6, r7, r8, r9, f0, f1, f2, f3, f4, f5, f6, f7, f8, f9⟩ := GA.rf10
      have zI := ξ (kn (w := wr) (b := w.heap.size + 1) h1)
      have za := ξ (qV (w := wr) (b := w.heap.size + 1) GA h1)
      clear GA
      go_wp2
      (try rw [Exit.noGoto_ret])
      obtain ⟨s0, s1, s2, s3, s4, s5, s6, s7, s8, s9⟩ := za.out
      first
      | refine bodyPost_ret (v := .agg (cH h1)) (by simp [results, results126, go_sem, s0, s1, s2, s3, s4, s5, s6, s7, s8, s9]) rfl ⟨gz, ?_, qR.out.1, HX.out.mono (HX.out.keeps qR.out.2.1 (zI.out.mono (fun i _ e => .inr (by subst e; omega)))) (fun b hb => .inl hb), qR.out.2.2.trans2 zI.out (fun i hi e => by omega)⟩
      | refine bodyPost_ret (v := .agg (cH h1)) (by simp [results, results126, go_sem, s0, s1, s2, s3, s4, s5, s6, s7, s8, s9]) rfl ⟨?_, gz, qR.out.1, HX.out.mono (HX.out.keeps qR.out.2.1 (zI.out.mono (fun i _ e => .inr (by subst e; omega)))) (fun b hb => .inl hb), qR.out.2.2.trans2 zI.out (fun i hi e => by omega)⟩
      show Ending.returned (qk h1) = Ending.returned (qk ((qd s (.times m M u)).walk p j had))
      rw [qaF.out, HZF.out]
  ·have yF : zK s (qd s u) m M (j - p) p 0 had j = if (c : Int) < m then (qd s u).leave j j h1 else h1 := by
    rw [hrw, qgJ zb]
   have hltI : ¬ (a : Int) < (j : Int) := by omega
   have brE := hBr
   have nrE := hNr
   have rrE := hRr
   have hJE := QW
   have Kj := qJ
   have hEE := hEr
   have hkE := jC
   clear hBr hNr hRr QW qJ hEr jC hag hrw XG hK hg
   have lE : w.heap.size + 3 ≤ wa.heap.size := by have := rrE.lt; have := nrE.lt; omega
   clear k0 k1 k2 k3 k4 k5 k6 k7 k8 k9 m0 m1 m2 m3 m4 m5 m6 m7 m8 m9
   have k0 : wa.cell? ⟨w.heap.size, 0, none⟩ = some (qj (h1 0)) := qc.at (had := h1) brE 0 (by decide)
   have k1 : wa.cell? ⟨w.heap.size, 1, none⟩ = some (qj (h1 1)) := qc.at (had := h1) brE 1 (by decide)
   have k2 : wa.cell? ⟨w.heap.size, 2, none⟩ = some (qj (h1 2)) := qc.at (had := h1) brE 2 (by decide)
   have k3 : wa.cell? ⟨w.heap.size, 3, none⟩ = some (qj (h1 3)) := qc.at (had := h1) brE 3 (by decide)
   have k4 : wa.cell? ⟨w.heap.size, 4, none⟩ = some (qj (h1 4)) := qc.at (had := h1) brE 4 (by decide)
   have k5 : wa.cell? ⟨w.heap.size, 5, none⟩ = some (qj (h1 5)) := qc.at (had := h1) brE 5 (by decide)
   have k6 : wa.cell? ⟨w.heap.size, 6, none⟩ = some (qj (h1 6)) := qc.at (had := h1) brE 6 (by decide)
   have k7 : wa.cell? ⟨w.heap.size, 7, none⟩ = some (qj (h1 7)) := qc.at (had := h1) brE 7 (by decide)
   have k8 : wa.cell? ⟨w.heap.size, 8, none⟩ = some (qj (h1 8)) := qc.at (had := h1) brE 8 (by decide)
   have k9 : wa.cell? ⟨w.heap.size, 9, none⟩ = some (qj (h1 9)) := qc.at (had := h1) brE 9 (by decide)
   have m5 : wa.cell? ⟨w.heap.size + 2, 5, none⟩ = some (.int .i64 (q : Int)) := nrE.cell 5
   have m7 : wa.cell? ⟨w.heap.size + 2, 7, none⟩ = some (.int .i64 m) := nrE.cell 7
   by_cases Vv : (c : Int) < m
   ·obtain ⟨Z, hZ⟩ : ∃ Z, Z = (qd s u).leave j j h1 := ⟨_, rfl⟩
    rw [if_pos Vv, ← hZ] at yF
    have qh := HLE.out j j hp (Nat.le_refl _) (Nat.le_refl _) h1 _ gs wa yp hJE hEE
    rw [← hZ] at qh
    unfold qk at qh
    have qp := ξ qh
    have HZF := ξ yF
    have HPE := ξ (ζ Kj (ζ hkE (ζ rrE hJE)))
    clear qh hZ yF Kj hkE rrE hJE brE nrE hEE
    go_wp2_with fail
    refine qp.out.mono ?_
    rintro e wE ⟨gE, rfl, QR, VR, Xv⟩
    have GA : qm wE (w.heap.size + 1) 10 27 (fun _ => .complex .f64 0 0) := ⟨(Xv.block _ HPE.out.2.2.1.lt (kD.out _ (by omega))).trans HPE.out.2.2.1.heap⟩
    have qR := ξ (ζ (HPE.out.1.trans QR) (ζ VR (HPE.out.2.1.trans Xv)))
    have lE2 : w.heap.size + 3 ≤ wE.heap.size := by have := Xv.size; omega
    clear QR VR Xv qp m5 m7 k0 k1 k2 k3 k4 k5 k6 k7 k8 k9
    obtain ⟨r0, r1, r2, r3, r4, r5, r6, r7, r8, r9, f0, f1, f2, f3, f4, f5, f6, f7, f8, f9⟩ := GA.rf10
    have zI := ξ (kn (w := wE) (b := w.heap.size + 1) Z)
    have za := ξ (qV (w := wE) (b := w.heap.size + 1) GA Z)
    clear GA
    go_wp2
    (try rw [Exit.noGoto_ret])
    obtain ⟨s0, s1, s2, s3, s4, s5, s6, s7, s8, s9⟩ := za.out
    first
    | refine bodyPost_ret (v := .agg (cH Z)) (by simp [results, results126, go_sem, s0, s1, s2, s3, s4, s5, s6, s7, s8, s9]) rfl ⟨gE, ?_, qR.out.1, HX.out.mono (HX.out.keeps qR.out.2.1 (zI.out.mono (fun i _ e => .inr (by subst e; omega)))) (fun b hb => .inl hb), qR.out.2.2.trans2 zI.out (fun i hi e => by omega)⟩
    | refine bodyPost_ret (v := .agg (cH Z)) (by simp [results, results126, go_sem, s0, s1, s2, s3, s4, s5, s6, s7, s8, s9]) rfl ⟨?_, gE, qR.out.1, HX.out.mono (HX.out.keeps qR.out.2.1 (zI.out.mono (fun i _ e => .inr (by subst e; omega)))) (fun b hb => .inl hb), qR.out.2.2.trans2 zI.out (fun i hi e => by omega)⟩
    show Ending.returned (qk Z) = Ending.returned (qk ((qd s (.times m M u)).walk p j had))
    rw [qaF.out, HZF.out]
   ·rw [if_neg Vv] at yF
    have GA := rrE
    have HZF := ξ yF
    have qR := ξ (ζ Kj (ζ hJE hkE))
    clear yF Kj hJE hkE rrE brE nrE hEE m5
    obtain ⟨r0, r1, r2, r3, r4, r5, r6, r7, r8, r9, f0, f1, f2, f3, f4, f5, f6, f7, f8, f9⟩ := GA.rf10
    have zI := ξ (kn (w := wa) (b := w.heap.size + 1) h1)
    have za := ξ (qV (w := wa) (b := w.heap.size + 1) GA h1)
    clear GA
    go_wp2
    (try rw [Exit.noGoto_ret])
    obtain ⟨s0, s1, s2, s3, s4, s5, s6, s7, s8, s9⟩ := za.out
    first
    | refine bodyPost_ret (v := .agg (cH h1)) (by simp [results, results126, go_sem, s0, s1, s2, s3, s4, s5, s6, s7, s8, s9]) rfl ⟨gs, ?_, qR.out.1, HX.out.mono (HX.out.keeps qR.out.2.1 (zI.out.mono (fun i _ e => .inr (by subst e; omega)))) (fun b hb => .inl hb), qR.out.2.2.trans2 zI.out (fun i hi e => by omega)⟩
    | refine bodyPost_ret (v := .agg (cH h1)) (by simp [results, results126, go_sem, s0, s1, s2, s3, s4, s5, s6, s7, s8, s9]) rfl ⟨?_, gs, qR.out.1, HX.out.mono (HX.out.keeps qR.out.2.1 (zI.out.mono (fun i _ e => .inr (by subst e; omega)))) (fun b hb => .inl hb), qR.out.2.2.trans2 zI.out (fun i hi e => by omega)⟩
    show Ending.returned (qk h1) = Ending.returned (qk ((qd s (.times m M u)).walk p j had))
    rw [qaF.out, HZF.out]
end
end Go.Proofs.YtjgegohidhdbpaaGreatDoor
