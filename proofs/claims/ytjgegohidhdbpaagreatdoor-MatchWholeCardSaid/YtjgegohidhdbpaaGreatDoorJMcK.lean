/- A trial: again. -/
import Derived.Test.YtjgegohidhdbpaaGreatDoorJMbO
set_option linter.unusedVariables false
set_option linter.unusedSimpArgs false
set_option maxRecDepth 100000
set_option maxHeartbeats 40000000
namespace Go.Proofs.YtjgegohidhdbpaaGreatDoor
open Go.RowKit Go.Maps Go.WideMaps
theorem vS {s : List UInt8} {A : Sem} {m M : Int} {p c j : Nat} {had : Cp} (hp : p ≤ s.length) : zc s A m M (s.length - p) p c had j = ((decide (j = p) && (decide (m ≤ c) || A.ends p 0 had p)) || (decide ((c : Int) ≠ M) && zZ (p + 1) s.length fun k => A.ends p 0 had k && zc s A m M (s.length - k) k (qO m M c) (qW A A.asked p had k) j)) := by
 rcases Nat.lt_or_ge p s.length with h | h
 ·obtain ⟨f, hf⟩ : ∃ f, s.length - p = f + 1 := ⟨s.length - p - 1, by omega⟩
  rw [hf, zc]
  congr 2
  rw [Bool.eq_iff_iff, qF, qF]
  constructor
  ·rintro ⟨k, a, b, e⟩
   exact ⟨k, a, b, by rw [← e, JY (s.length - k) f k _ _ (by omega) (by omega)]⟩
  ·rintro ⟨k, a, b, e⟩
   exact ⟨k, a, b, by rw [← e, JY f (s.length - k) k _ _ (by omega) (by omega)]⟩
 ·obtain rfl : p = s.length := by omega
  have e : (zZ (s.length + 1) s.length fun k => A.ends s.length 0 had k && zc s A m M (s.length - k) k (qO m M c) (qW A A.asked s.length had k) j) = false := by
   rw [Bool.eq_false_iff]
   intro e
   obtain ⟨k, a, b, _⟩ := qF.1 e
   omega
  rw [e, Bool.and_false, Bool.or_false, Nat.sub_self, zc]
def vE (s : List UInt8) (A : Sem) (m M : Int) (p c : Nat) (had : Cp) (j k : Nat) : Bool := A.ends p 0 had k && zc s A m M (s.length - k) k (qO m M c) (qW A A.asked p had k) j
section
variable {X : Nat} {v : kU} {s : List UInt8} {xs : List Nd} {B : Nat} {c1 : Lit → Nat} {n1 : Nat} {P1 : Lit → Prop} {c2 : Lit → Nat} {n2 : Nat} {M2 : Nat → Prop} {J : (Nat → Prop) → List Lit → World → Prop}
theorem qgI (jx : JX X v s xs B c1 n1 P1 c2 n2 M2 J) (fx : Fx v s xs B P1) (n p q : Nat) (m M : Int) (t : T) (hn : n < v.n) (hp : p ≤ s.length) (hx : xs[n]? = some ⟨6, 0, 0, 0, 0, (q : Int), 0, m, M, 0⟩) (hm : 0 ≤ m ∧ m ≤ 255) (hMx : M = -1 ∨ M ≤ 255) (K0 : t.isBytes = none) (Uj : zz t 0) (hSA : vt s.length (qd s t)) (hA : jI X v s B M2 J q t p)
  (hG : ∀ k, p < k → k ≤ s.length → GoC X v s B M2 J n (.times m M t) k) (Gu : (∀ (had : Cp) (E : Nat → Prop) (es : List Lit) (w : World), qo s.length had → J E es w → (∀ b, E b → b < w.heap.size) → Calls Tryz.prog 142 #[.pointer (some ⟨X, 0, none⟩), .int .i64 q, .int .i64 n, .int .i64 p, qk had] w fun e w' => ∃ (K : FuncId) (cap : Array Value), e = .returned (.func (.func K) #[] cap) ∧ (∀ S, qb S w w') ∧ ∀ k, p ≤ k → k ≤ s.length → QK v M2 J K cap k (qW (qd s t) (qd s t).asked p had k) E es w')) : zA X v s B M2 J 147 n (.times m M t) p := by
 have XF := fx.B1
 have qQ := fx.B3
 have jp := fx.sl
 intro c had E es w fb f JR kC qB hJ hE zJ qv
 have iv := jx.iv hJ
 have zO : ∀ S, qb S w (w.alloc (.cells (cH had) 27)) := fun S => (qb.refl S w).alloc _
 have iv1 := iv.keeps (zO _)
 have x0 := iv1.tr.c0
 have d := iv1.nodes.cell n _ hx
 have d_ := zB d
 have qH : ∀ S, qb S w ((w.alloc (.cells (cH had) 27)).alloc (.cells (nA 6 0 0 0 0 (q : Int) 0 m M 0) 57)) := fun S => (zO S).alloc _
 have jD := (qc w had).alloc (.cells (nA 6 0 0 0 0 (q : Int) 0 m M 0) 57)
 have zk := qv.keeps (qH (fun _ => False)) id
 have vV := jx.keeps hJ (qH _)
 have Qq : ∀ b, E b → b < ((w.alloc (.cells (cH had) 27)).alloc (.cells (nA 6 0 0 0 0 (q : Int) 0 m M 0) 57)).heap.size := fun b hb => by
  have := hE b hb
  have := (qH (fun _ => False)).size
  omega
 have x01 := (iv.keeps (qH _)).tr.c0
 have ZO : ¬ Mt v fb ∧ ¬ M2 fb := ⟨fun e => by
  obtain ⟨o1, o2, o3, o4, o5, o6, o7⟩ := iv.out
  rcases e with e | e | e
  ·subst e; exact o4 (.inl zJ)
  ·subst e; exact o5 (.inl zJ)
  ·subst e; exact o6 (.inl zJ), fun e => (jx.lt hJ fb e).2 _ _ qv⟩
 obtain ⟨k0, k1, k2, k3, k4, k5, k6, k7, k8, k9⟩ := qc.ten (w := ((w.alloc (.cells (cH had) 27)).alloc (.cells (nA 6 0 0 0 0 (q : Int) 0 m M 0) 57))) (b := w.heap.size) (had := had) jD
 have qh := hA 0 had E es _ (by omega) Uj qB vV Qq
 unfold qk at qh
 have qp := ξ qh
 have yg := ξ qH
 have jk := ξ (ζ jD (ζ Qq (ζ qB (ζ ZO kC))))
 have vP := ξ zk
 have HG := ξ hG
 have HX := ξ jx
 have YD := ξ hSA
 have HLV := ξ Gu
 have HEN := ξ (fun (c : Nat) (had : Cp) j => (show (qd s (.times m M t)).ends p c had j = zc s (qd s t) m M (s.length - p) p c had j from by simp only [qd, jR, K0]))
 have qjO := ξ (fun (k c : Nat) (had : Cp) j => (show (qd s (.times m M t)).ends k c had j = zc s (qd s t) m M (s.length - k) k c had j from by simp only [qd, jR, K0]))
 have lfb := qv.lt
 have lw := iv.lts
 have ZD := ξ (fun b hb => (jx.lt hJ b hb).1)
 have YE : zG ((w.alloc (.cells (cH had) 27)).alloc (.cells (nA 6 0 0 0 0 (q : Int) 0 m M 0) 57)) (w.heap.size + 1) (nA 6 0 0 0 0 (q : Int) 0 m M 0) 57 := by
  have := zG.new (w.alloc (.cells (cH had) 27)) (nA 6 0 0 0 0 (q : Int) 0 m M 0) 57
  rw [World.size_alloc] at this
  exact this
 have HN4 := ξ YE
 clear qh qH hA hG Gu hx ZO YE hSA
 clear d x01 zk vV Qq zO jD iv iv1 hJ hE qv qB kC jx
 unfold qk PV
 go_enter Tryz.func147, Tryz.ntmps147
 go_wp2_with fail
 refine qp.out.mono ?_
 rintro e w4 ⟨b, fs, rfl, kI, hbE, qeq, JT, hbM, vA, KN, vn⟩
 have hff : ∀ i, 64 * (s.length / 64 + 1) ≤ i → (qd s t).ends p 0 had i = false := fun i hi => by
  rw [Bool.eq_false_iff]
  intro e
  have := (YD.out.le p 0 had i jk.out.2.2.1 hp e).2
  omega
 have HFF := ξ hff
 have HFR := ξ (fun (q : Nat) (hq : q ≤ 1000000000) (W : World) (hT : TabAt 0 Lib.deBruijn64tab W) (h : qI W b (s.length / 64 + 1) (fun j => (qd s t).ends p 0 had j)) => Xs b (s.length / 64 + 1) (s.length / 64 + 1) q _ (by omega) hq HFF.out W hT h)
 have kz : ∀ b, w.heap.size ≤ b → ¬ (Mt v b ∨ M2 b) := fun b hb e => by
  rcases e with e | e
  ·rcases e with e | e | e <;> omega
  ·have := ZD.out b e; omega
 have c4 := jk.out.1.keeps vn (kz _ (by omega))
 have n4 := HN4.out.keeps vn (kz _ (by omega))
 have hrf := vP.out.keeps vn (fun e => e.elim jk.out.2.2.2.1.1 jk.out.2.2.2.1.2)
 have jW := ξ (ζ kI (ζ KN (ζ vn (ζ vA hbE))))
 have Uo := ξ (ζ JT hbM)
 have hbf : b ≠ fb := fun e => hbE (e ▸ zJ)
 have m7 : w4.cell? ⟨w.heap.size + 1, 7, none⟩ = some (.int .i64 m) := n4.cell 7
 clear k0 k1 k2 k3 k4 k5 k6 k7 k8 k9 qp hff KN vn vA kz
 by_cases hmc : m ≤ (c : Int)
 ·have kW := WX fb (s.length / 64 + 1) (s.length / 64 + 1) p f (by omega) (by omega) w4 hrf
  obtain ⟨wt, hwt⟩ : ∃ wt, wt = (w4.setCell ⟨fb, p / 64, none⟩ (.int .u64 (wd (fun i => f i || i == p) (p / 64)))).drew := ⟨_, rfl⟩
  have Zw : qb (fun b => b = fb) w4 wt := by rw [hwt]; exact Zd w4 fb _ _
  have YH : qI wt fb (s.length / 64 + 1) (fun i => f i || i == p) := by rw [hwt]; exact (hrf.put p).drew
  have nT := n4.keeps Zw (by omega)
  have cT := c4.keeps Zw (by omega)
  have bT := kI.keeps Zw hbf
  rw [← hwt] at kW
  have Kk := ξ kW
  have HTT := ξ (ζ Zw (ζ YH (ζ nT (ζ cT bT))))
  clear kW Zw YH nT cT bT hwt hrf n4 c4 kI
  go_wp2_with fail
  refine Kk.out.mono ?_
  rintro e wt2 ⟨rfl, hw⟩
  subst hw
  obtain ⟨Zw, YH, nT, cT, bT⟩ := HTT.out
  have hgT : ∀ j, (f j || j == p) = (f j || (decide (j = p) && (decide (m ≤ c) || (qd s t).ends p 0 had p))) := fun j => by
   have eb : (j == p) = decide (j = p) := rfl
   rw [eb]
   simp [hmc]
  have hmT := True.intro
  clear Kk m7 HTT
  by_cases hM : (c : Int) = M
  ·have hMb : ((c : Int) == M) = true := by simpa using hM
   clear hmT
   have m8 : wt2.cell? ⟨w.heap.size + 1, 8, none⟩ = some (.int .i64 M) := nT.cell 8
   have qt := ξ (ζ YH (ζ hgT Zw))
   clear nT YH hgT Zw bT
   go_wp2
   first | go_end0 | refine bodyPost_ret (results_none rfl _ _ _) rfl ?_
   first
   | refine ⟨fs, rfl, ?_, jW.out.2.2.2.1, HX.out.keeps jW.out.2.1 (qt.out.2.2.mono (fun i _ e => e ▸ zJ)), ((yg.out _).trans (jW.out.2.2.1.mono (fun i _ e => .inl e))).trans (qt.out.2.2.mono (fun i _ e => .inr e))⟩
   | refine ⟨rfl, ?_, fs, jW.out.2.2.2.1, HX.out.keeps jW.out.2.1 (qt.out.2.2.mono (fun i _ e => e ▸ zJ)), ((yg.out _).trans (jW.out.2.2.1.mono (fun i _ e => .inl e))).trans (qt.out.2.2.mono (fun i _ e => .inr e))⟩
   have e : (fun i => f i || i == p) = (fun j => f j || (qd s (.times m M t)).ends p c had j) := by
    funext j
    rw [qt.out.2.1 j, HEN.out c had j, vS hp]
    simp [hM]
   rw [← e]
   exact qt.out.1
  ·have hMb : ((c : Int) == M) = false := by rw [beq_eq_false_iff_ne]; exact hM
   have m8 : wt2.cell? ⟨w.heap.size + 1, 8, none⟩ = some (.int .i64 M) := nT.cell 8
   have m5 : wt2.cell? ⟨w.heap.size + 1, 5, none⟩ = some (.int .i64 (q : Int)) := nT.cell 5
   obtain ⟨k0, k1, k2, k3, k4, k5, k6, k7, k8, k9⟩ := qc.ten (w := wt2) (b := w.heap.size) (had := had) cT
   have hJT := HX.out.keeps jW.out.2.1 (Zw.mono (fun i _ e => e ▸ zJ))
   have hszT := Zw.size
   have hszw := jW.out.2.2.1.size
   have qh := HLV.out had E fs wt2 jk.out.2.2.1 hJT (fun b hb => by have := jk.out.2.1 b hb; omega)
   unfold qk at qh
   have qp := ξ qh
   have qt := ξ (ζ YH (ζ hgT (ζ Zw (ζ nT (ζ bT hJT)))))
   clear qh nT YH hgT Zw bT hJT
   go_wp2_with fail
   refine qp.out.mono ?_
   rintro e w5 ⟨K, cap, rfl, vH, Un⟩
   have Kg := HX.out.keeps qt.out.2.2.2.2.2 (vH _)
   have QS := ξ (HFR.out (p + 1) (by omega) w5 (HX.out.iv Kg).tab (qt.out.2.2.2.2.1.keeps (vH (fun _ => False)) id))
   rw [show ((p + 1 : Nat) : Int) = (p : Int) + 1 from by omega] at QS
   have QH := ξ (ζ Kg (ζ vH Un))
   clear Kg vH Un m5 m8 k0 k1 k2 k3 k4 k5 k6 k7 k8 k9 qp
   go_wp2_with fail
   refine QS.out.mono ?_
   rintro e w6 ⟨⟨r, rfl, hr⟩, hw⟩
   subst hw
   have HR := ξ hr
   clear hr QS
   go_wp2
   go_loopw [15] (fun kv wr => ∃ (r : Int) (k0 : Nat) (gs : List Lit) (g : Nat → Bool), kv = .int .i64 r ∧ p + 1 ≤ k0 ∧ yL (fun j => (qd s t).ends p 0 had j) k0 r ∧ fs <+: gs ∧ J E gs wr ∧ qI wr fb (s.length / 64 + 1) g ∧ (∀ j, (g j || zZ k0 s.length (vE s (qd s t) m M p c had j)) = (((fun i => f i || i == p)) j || zZ (p + 1) s.length (vE s (qd s t) m M p c had j))) ∧ qb (fun b => (Mt v b ∨ M2 b) ∨ b = fb) w6 wr) (fun kv _ => msr s.length (RowKit.intOf kv))
   case atStart => exact ⟨r, p + 1, fs, _, rfl, Nat.le_refl _, HR.out, List.prefix_refl _, QH.out.1, qt.out.1.keeps (QH.out.2.1 (fun _ => False)) id, fun j => rfl, qb.refl _ _⟩
   case round =>
    obtain ⟨r2, k0, gs, g, rfl, Vu, Qo, qJ, QW, qv, hg, hK⟩ := hrel
    rcases Qo with ⟨rfl, WO⟩ | ⟨k, rfl, zO, qH, zl⟩
    ·have YI := ξ (ζ qJ (ζ QW (ζ qv hK)))
     have Zk := ξ (ζ hg WO)
     clear qJ QW qv hK hg WO
     go_wp2
     first | go_end0 | refine bodyPost_ret (results_none rfl _ _ _) rfl ?_
     have hKK : qb (fun b => (Mt v b ∨ M2 b) ∨ b = fb) w wr := ((((yg.out _).trans (jW.out.2.2.1.mono (fun i _ e => .inl e))).trans (qt.out.2.2.1.mono (fun i _ e => .inr e))).trans (QH.out.2.1 _)).trans YI.out.2.2.2
     first
     | refine ⟨gs, rfl, ?_, jW.out.2.2.2.1.trans YI.out.1, YI.out.2.1, hKK⟩
     | refine ⟨rfl, ?_, gs, jW.out.2.2.2.1.trans YI.out.1, YI.out.2.1, hKK⟩
     have e : g = (fun j => f j || (qd s (.times m M t)).ends p c had j) := by
      funext j
      have h1 := Zk.out.1 j
      rw [Kl (k0 := k0) (fun i hi => by unfold vE; rw [Zk.out.2 i hi]; rfl), Bool.or_false] at h1
      rw [h1, HEN.out c had j, vS hp, ← Bool.or_assoc, ← qt.out.2.1 j]
      simp only [ne_eq, hM, not_false_eq_true, decide_true, Bool.true_and]
      rfl
     rw [← e]
     exact YI.out.2.2.1
    ·have jl := (YD.out.le p 0 had k jk.out.2.2.1 hp qH).2
     have kR := hK.size
     have qf8 := (QH.out.2.1 (fun _ => False)).size
     have kz : ∀ i, w.heap.size ≤ i → ¬ ((Mt v i ∨ M2 i) ∨ i = fb) := fun i hi e => by
      rcases e with (e | e) | e
      ·rcases e with e | e | e <;> omega
      ·have := ZD.out i e; omega
      ·omega
     have n5 := (qt.out.2.2.2.1.keeps (QH.out.2.1 (fun _ => False)) id).keeps hK (kz _ (by omega))
     obtain ⟨m0, m1, m2, m3, m4, m5, m6, m7, m8, m9⟩ := j9 n5
     have j6 := Zh ⟨6, 0, 0, 0, 0, (q : Int), 0, m, M, 0⟩ c (by omega) hm wr
     unfold Je at j6
     simp only at j6
     obtain ⟨c', kZ⟩ : ∃ c', c' = qO m M c := ⟨_, rfl⟩
     rw [← kZ] at j6
     have ZN := ξ kZ
     have Jd := ξ j6
     have kL := ξ (ζ qJ (ζ hK (ζ QW qv)))
     have Zk := ξ (ζ hg (ζ qH zl))
     clear j6 kZ qJ hK hg QW qv n5 qH zl
     go_wp2_with fail
     refine Jd.out.mono ?_
     rintro e w7 ⟨rfl, hB7⟩
     clear Jd m0 m1 m2 m3 m4 m5 m6 m7 m8 m9
     have Jg : ∀ S, qb S wr w7 := fun S => qb.of_below hB7
     have hsz7 := (Jg (fun _ => False)).size
     have Uk : c' ≤ B ∧ zz (.times m M t) c' := by
      have h1 := jk.out.2.2.2.2
      have h2 := ZN.out
      unfold zz at h1 ⊢
      unfold qO at h2
      simp only at h1 ⊢
      by_cases VA : M = -1
      ·rw [if_pos VA] at h1 h2 ⊢
       omega
      ·rw [if_neg VA] at h1 h2 ⊢
       omega
     have qh := HG.out k (by omega) jl c' (qW (qd s t) (qd s t).asked p had k) E gs w7 fb g K cap Uk.1 Uk.2 (YD.out.left_cap jk.out.2.2.1 (by omega) jl) (HX.out.keeps kL.out.2.2.1 (Jg _)) (fun b hb => by
      have := jk.out.2.1 b hb
      omega) zJ (kL.out.2.2.2.keeps (Jg (fun _ => False)) id) ((QH.out.2.2 k (by omega) jl).mono kL.out.1 ((kL.out.2.1.mono (fun i _ e => e.elim .inl (fun q => .inr (by subst q; exact zJ)))).trans (Jg _)))
     unfold PV at qh
     have qp := ξ qh
     have HK7 := ξ Jg
     clear qh kz Uk hB7 Jg
     go_wp2_with fail
     refine qp.out.mono ?_
     rintro e w8 ⟨hs, rfl, K7, yk, ZI, Qv⟩
     have hbn : ¬ ((Mt v b ∨ M2 b) ∨ b = fb) := fun e => by
      rcases e with (e | e) | e
      ·exact Uo.out.2 e
      ·exact Uo.out.1 e
      ·exact hbf e
     have hbr : qI w8 b (s.length / 64 + 1) (fun j => (qd s t).ends p 0 had j) := (((qt.out.2.2.2.2.1.keeps (QH.out.2.1 (fun _ => False)) id).keeps kL.out.2.1 hbn).keeps (HK7.out (fun _ => False)) id).keeps Qv hbn
     have VG := HFR.out (k + 1) (by omega) w8 (HX.out.iv ZI).tab hbr
     rw [show ((k + 1 : Nat) : Int) = (k : Int) + 1 from by omega] at VG
     have Vr := ξ VG
     have qE := ξ (ζ K7 (ζ yk (ζ ZI Qv)))
     clear VG hbr hbn K7 yk ZI Qv qp
     go_wp2_with fail
     refine Vr.out.mono ?_
     rintro e w9 ⟨⟨r3, rfl, kH⟩, hw⟩
     subst hw
     have VS : r3 = -1 ∨ (k : Int) + 1 ≤ r3 := by
      rcases kH with ⟨e, _⟩ | ⟨k', e, h, _⟩
      ·exact .inl e
      ·exact .inr (by omega)
     have HR3 := ξ kH
     clear kH Vr
     go_wp2
     go_roundw
     case rel =>
      refine ⟨r3, k + 1, hs, _, rfl, by omega, HR3.out, kL.out.1.trans qE.out.2.1, qE.out.2.2.1, qE.out.1, fun j => ?_, (kL.out.2.1.trans (HK7.out _)).trans qE.out.2.2.2⟩
      rw [← Zk.out.1 j, Km zO jl (fun i h1 h2 => by unfold vE; rw [Zk.out.2.2 i h1 h2]; rfl), Bool.or_assoc]
      congr 2
      unfold vE
      rw [Zk.out.2.1, Bool.true_and, qjO.out, ZN.out]
     case measure => exact Vl jl VS
 ·have QQ := ξ (Ys b (s.length / 64 + 1) (s.length / 64 + 1) p _ (by omega) (by omega) w4 kI)
  go_wp2_with fail
  refine QQ.out.mono ?_
  rintro e w5h ⟨rfl, hw⟩
  subst hw
  clear QQ
  cases hhe : (qd s t).ends p 0 had p with
  | false =>
   have Zw : qb (fun b => b = fb) w5h w5h := qb.refl _ _
   have YH := hrf
   have nT := n4
   have cT := c4
   have bT := kI
   have hgT : ∀ j, f j = (f j || (decide (j = p) && (decide (m ≤ c) || (qd s t).ends p 0 had p))) := fun j => by
    rw [hhe, decide_eq_false (show ¬ m ≤ (c : Int) by omega)]
    simp
   have hmT := True.intro
   clear m7 hrf n4 c4 kI hhe
   by_cases hM : (c : Int) = M
   ·have hMb : ((c : Int) == M) = true := by simpa using hM
    clear hmT
    have m8 : w5h.cell? ⟨w.heap.size + 1, 8, none⟩ = some (.int .i64 M) := nT.cell 8
    have qt := ξ (ζ YH (ζ hgT Zw))
    clear nT YH hgT Zw bT
    go_wp2
    first | go_end0 | refine bodyPost_ret (results_none rfl _ _ _) rfl ?_
    first
    | refine ⟨fs, rfl, ?_, jW.out.2.2.2.1, HX.out.keeps jW.out.2.1 (qt.out.2.2.mono (fun i _ e => e ▸ zJ)), ((yg.out _).trans (jW.out.2.2.1.mono (fun i _ e => .inl e))).trans (qt.out.2.2.mono (fun i _ e => .inr e))⟩
    | refine ⟨rfl, ?_, fs, jW.out.2.2.2.1, HX.out.keeps jW.out.2.1 (qt.out.2.2.mono (fun i _ e => e ▸ zJ)), ((yg.out _).trans (jW.out.2.2.1.mono (fun i _ e => .inl e))).trans (qt.out.2.2.mono (fun i _ e => .inr e))⟩
    have e : f = (fun j => f j || (qd s (.times m M t)).ends p c had j) := by
     funext j
     rw [qt.out.2.1 j, HEN.out c had j, vS hp]
     simp [hM]
    rw [← e]
    exact qt.out.1
   ·have hMb : ((c : Int) == M) = false := by rw [beq_eq_false_iff_ne]; exact hM
    have m8 : w5h.cell? ⟨w.heap.size + 1, 8, none⟩ = some (.int .i64 M) := nT.cell 8
    have m5 : w5h.cell? ⟨w.heap.size + 1, 5, none⟩ = some (.int .i64 (q : Int)) := nT.cell 5
    obtain ⟨k0, k1, k2, k3, k4, k5, k6, k7, k8, k9⟩ := qc.ten (w := w5h) (b := w.heap.size) (had := had) cT
    have hJT := HX.out.keeps jW.out.2.1 (Zw.mono (fun i _ e => e ▸ zJ))
    have hszT := Zw.size
    have hszw := jW.out.2.2.1.size
    have qh := HLV.out had E fs w5h jk.out.2.2.1 hJT (fun b hb => by have := jk.out.2.1 b hb; omega)
    unfold qk at qh
    have qp := ξ qh
    have qt := ξ (ζ YH (ζ hgT (ζ Zw (ζ nT (ζ bT hJT)))))
    clear qh nT YH hgT Zw bT hJT
    go_wp2_with fail
    refine qp.out.mono ?_
    rintro e w5 ⟨K, cap, rfl, vH, Un⟩
    have Kg := HX.out.keeps qt.out.2.2.2.2.2 (vH _)
    have QS := ξ (HFR.out (p + 1) (by omega) w5 (HX.out.iv Kg).tab (qt.out.2.2.2.2.1.keeps (vH (fun _ => False)) id))
    rw [show ((p + 1 : Nat) : Int) = (p : Int) + 1 from by omega] at QS
    have QH := ξ (ζ Kg (ζ vH Un))
    clear Kg vH Un m5 m8 k0 k1 k2 k3 k4 k5 k6 k7 k8 k9 qp
    go_wp2_with fail
    refine QS.out.mono ?_
    rintro e w6 ⟨⟨r, rfl, hr⟩, hw⟩
    subst hw
    have HR := ξ hr
    clear hr QS
    go_wp2
    go_loopw [15] (fun kv wr => ∃ (r : Int) (k0 : Nat) (gs : List Lit) (g : Nat → Bool), kv = .int .i64 r ∧ p + 1 ≤ k0 ∧ yL (fun j => (qd s t).ends p 0 had j) k0 r ∧ fs <+: gs ∧ J E gs wr ∧ qI wr fb (s.length / 64 + 1) g ∧ (∀ j, (g j || zZ k0 s.length (vE s (qd s t) m M p c had j)) = ((f) j || zZ (p + 1) s.length (vE s (qd s t) m M p c had j))) ∧ qb (fun b => (Mt v b ∨ M2 b) ∨ b = fb) w6 wr) (fun kv _ => msr s.length (RowKit.intOf kv))
    case atStart => exact ⟨r, p + 1, fs, _, rfl, Nat.le_refl _, HR.out, List.prefix_refl _, QH.out.1, qt.out.1.keeps (QH.out.2.1 (fun _ => False)) id, fun j => rfl, qb.refl _ _⟩
    case round =>
     obtain ⟨r2, k0, gs, g, rfl, Vu, Qo, qJ, QW, qv, hg, hK⟩ := hrel
     rcases Qo with ⟨rfl, WO⟩ | ⟨k, rfl, zO, qH, zl⟩
     ·have YI := ξ (ζ qJ (ζ QW (ζ qv hK)))
      have Zk := ξ (ζ hg WO)
      clear qJ QW qv hK hg WO
      go_wp2
      first | go_end0 | refine bodyPost_ret (results_none rfl _ _ _) rfl ?_
      have hKK : qb (fun b => (Mt v b ∨ M2 b) ∨ b = fb) w wr := ((((yg.out _).trans (jW.out.2.2.1.mono (fun i _ e => .inl e))).trans (qt.out.2.2.1.mono (fun i _ e => .inr e))).trans (QH.out.2.1 _)).trans YI.out.2.2.2
      first
      | refine ⟨gs, rfl, ?_, jW.out.2.2.2.1.trans YI.out.1, YI.out.2.1, hKK⟩
      | refine ⟨rfl, ?_, gs, jW.out.2.2.2.1.trans YI.out.1, YI.out.2.1, hKK⟩
      have e : g = (fun j => f j || (qd s (.times m M t)).ends p c had j) := by
       funext j
       have h1 := Zk.out.1 j
       rw [Kl (k0 := k0) (fun i hi => by unfold vE; rw [Zk.out.2 i hi]; rfl), Bool.or_false] at h1
       rw [h1, HEN.out c had j, vS hp, ← Bool.or_assoc, ← qt.out.2.1 j]
       simp only [ne_eq, hM, not_false_eq_true, decide_true, Bool.true_and]
       rfl
      rw [← e]
      exact YI.out.2.2.1
     ·have jl := (YD.out.le p 0 had k jk.out.2.2.1 hp qH).2
      have kR := hK.size
      have qf8 := (QH.out.2.1 (fun _ => False)).size
      have kz : ∀ i, w.heap.size ≤ i → ¬ ((Mt v i ∨ M2 i) ∨ i = fb) := fun i hi e => by
       rcases e with (e | e) | e
       ·rcases e with e | e | e <;> omega
       ·have := ZD.out i e; omega
       ·omega
      have n5 := (qt.out.2.2.2.1.keeps (QH.out.2.1 (fun _ => False)) id).keeps hK (kz _ (by omega))
      obtain ⟨m0, m1, m2, m3, m4, m5, m6, m7, m8, m9⟩ := j9 n5
      have j6 := Zh ⟨6, 0, 0, 0, 0, (q : Int), 0, m, M, 0⟩ c (by omega) hm wr
      unfold Je at j6
      simp only at j6
      obtain ⟨c', kZ⟩ : ∃ c', c' = qO m M c := ⟨_, rfl⟩
      rw [← kZ] at j6
      have ZN := ξ kZ
      have Jd := ξ j6
      have kL := ξ (ζ qJ (ζ hK (ζ QW qv)))
      have Zk := ξ (ζ hg (ζ qH zl))
      clear j6 kZ qJ hK hg QW qv n5 qH zl
      go_wp2_with fail
      refine Jd.out.mono ?_
      rintro e w7 ⟨rfl, hB7⟩
      clear Jd m0 m1 m2 m3 m4 m5 m6 m7 m8 m9
      have Jg : ∀ S, qb S wr w7 := fun S => qb.of_below hB7
      have hsz7 := (Jg (fun _ => False)).size
      have Uk : c' ≤ B ∧ zz (.times m M t) c' := by
       have h1 := jk.out.2.2.2.2
       have h2 := ZN.out
       unfold zz at h1 ⊢
       unfold qO at h2
       simp only at h1 ⊢
       by_cases VA : M = -1
       ·rw [if_pos VA] at h1 h2 ⊢
        omega
       ·rw [if_neg VA] at h1 h2 ⊢
        omega
      have qh := HG.out k (by omega) jl c' (qW (qd s t) (qd s t).asked p had k) E gs w7 fb g K cap Uk.1 Uk.2 (YD.out.left_cap jk.out.2.2.1 (by omega) jl) (HX.out.keeps kL.out.2.2.1 (Jg _)) (fun b hb => by
       have := jk.out.2.1 b hb
       omega) zJ (kL.out.2.2.2.keeps (Jg (fun _ => False)) id) ((QH.out.2.2 k (by omega) jl).mono kL.out.1 ((kL.out.2.1.mono (fun i _ e => e.elim .inl (fun q => .inr (by subst q; exact zJ)))).trans (Jg _)))
      unfold PV at qh
      have qp := ξ qh
      have HK7 := ξ Jg
      clear qh kz Uk hB7 Jg
      go_wp2_with fail
      refine qp.out.mono ?_
      rintro e w8 ⟨hs, rfl, K7, yk, ZI, Qv⟩
      have hbn : ¬ ((Mt v b ∨ M2 b) ∨ b = fb) := fun e => by
       rcases e with (e | e) | e
       ·exact Uo.out.2 e
       ·exact Uo.out.1 e
       ·exact hbf e
      have hbr : qI w8 b (s.length / 64 + 1) (fun j => (qd s t).ends p 0 had j) := (((qt.out.2.2.2.2.1.keeps (QH.out.2.1 (fun _ => False)) id).keeps kL.out.2.1 hbn).keeps (HK7.out (fun _ => False)) id).keeps Qv hbn
      have VG := HFR.out (k + 1) (by omega) w8 (HX.out.iv ZI).tab hbr
      rw [show ((k + 1 : Nat) : Int) = (k : Int) + 1 from by omega] at VG
      have Vr := ξ VG
      have qE := ξ (ζ K7 (ζ yk (ζ ZI Qv)))
      clear VG hbr hbn K7 yk ZI Qv qp
      go_wp2_with fail
      refine Vr.out.mono ?_
      rintro e w9 ⟨⟨r3, rfl, kH⟩, hw⟩
      subst hw
      have VS : r3 = -1 ∨ (k : Int) + 1 ≤ r3 := by
       rcases kH with ⟨e, _⟩ | ⟨k', e, h, _⟩
       ·exact .inl e
       ·exact .inr (by omega)
      have HR3 := ξ kH
      clear kH Vr
      go_wp2
      go_roundw
      case rel =>
       refine ⟨r3, k + 1, hs, _, rfl, by omega, HR3.out, kL.out.1.trans qE.out.2.1, qE.out.2.2.1, qE.out.1, fun j => ?_, (kL.out.2.1.trans (HK7.out _)).trans qE.out.2.2.2⟩
       rw [← Zk.out.1 j, Km zO jl (fun i h1 h2 => by unfold vE; rw [Zk.out.2.2 i h1 h2]; rfl), Bool.or_assoc]
       congr 2
       unfold vE
       rw [Zk.out.2.1, Bool.true_and, qjO.out, ZN.out]
      case measure => exact Vl jl VS
  | true =>
   have kW := WX fb (s.length / 64 + 1) (s.length / 64 + 1) p f (by omega) (by omega) w5h hrf
   obtain ⟨wt, hwt⟩ : ∃ wt, wt = (w5h.setCell ⟨fb, p / 64, none⟩ (.int .u64 (wd (fun i => f i || i == p) (p / 64)))).drew := ⟨_, rfl⟩
   have Zw : qb (fun b => b = fb) w5h wt := by rw [hwt]; exact Zd w5h fb _ _
   have YH : qI wt fb (s.length / 64 + 1) (fun i => f i || i == p) := by rw [hwt]; exact (hrf.put p).drew
   have nT := n4.keeps Zw (by omega)
   have cT := c4.keeps Zw (by omega)
   have bT := kI.keeps Zw hbf
   rw [← hwt] at kW
   have Kk := ξ kW
   have HTT := ξ (ζ Zw (ζ YH (ζ nT (ζ cT bT))))
   have HHE := ξ hhe
   clear kW Zw YH nT cT bT hwt hrf n4 c4 kI hhe
   go_wp2_with fail
   refine Kk.out.mono ?_
   rintro e wt2 ⟨rfl, hw⟩
   subst hw
   obtain ⟨Zw, YH, nT, cT, bT⟩ := HTT.out
   have hgT : ∀ j, (f j || j == p) = (f j || (decide (j = p) && (decide (m ≤ c) || (qd s t).ends p 0 had p))) := fun j => by
    have eb : (j == p) = decide (j = p) := rfl
    rw [eb, HHE.out]
    simp
   have hmT := True.intro
   clear Kk m7 HTT
   by_cases hM : (c : Int) = M
   ·have hMb : ((c : Int) == M) = true := by simpa using hM
    clear hmT
    have m8 : wt2.cell? ⟨w.heap.size + 1, 8, none⟩ = some (.int .i64 M) := nT.cell 8
    have qt := ξ (ζ YH (ζ hgT Zw))
    clear nT YH hgT Zw bT
    go_wp2
    first | go_end0 | refine bodyPost_ret (results_none rfl _ _ _) rfl ?_
    first
    | refine ⟨fs, rfl, ?_, jW.out.2.2.2.1, HX.out.keeps jW.out.2.1 (qt.out.2.2.mono (fun i _ e => e ▸ zJ)), ((yg.out _).trans (jW.out.2.2.1.mono (fun i _ e => .inl e))).trans (qt.out.2.2.mono (fun i _ e => .inr e))⟩
    | refine ⟨rfl, ?_, fs, jW.out.2.2.2.1, HX.out.keeps jW.out.2.1 (qt.out.2.2.mono (fun i _ e => e ▸ zJ)), ((yg.out _).trans (jW.out.2.2.1.mono (fun i _ e => .inl e))).trans (qt.out.2.2.mono (fun i _ e => .inr e))⟩
    have e : (fun i => f i || i == p) = (fun j => f j || (qd s (.times m M t)).ends p c had j) := by
     funext j
     rw [qt.out.2.1 j, HEN.out c had j, vS hp]
     simp [hM]
    rw [← e]
    exact qt.out.1
   ·have hMb : ((c : Int) == M) = false := by rw [beq_eq_false_iff_ne]; exact hM
    have m8 : wt2.cell? ⟨w.heap.size + 1, 8, none⟩ = some (.int .i64 M) := nT.cell 8
    have m5 : wt2.cell? ⟨w.heap.size + 1, 5, none⟩ = some (.int .i64 (q : Int)) := nT.cell 5
    obtain ⟨k0, k1, k2, k3, k4, k5, k6, k7, k8, k9⟩ := qc.ten (w := wt2) (b := w.heap.size) (had := had) cT
    have hJT := HX.out.keeps jW.out.2.1 (Zw.mono (fun i _ e => e ▸ zJ))
    have hszT := Zw.size
    have hszw := jW.out.2.2.1.size
    have qh := HLV.out had E fs wt2 jk.out.2.2.1 hJT (fun b hb => by have := jk.out.2.1 b hb; omega)
    unfold qk at qh
    have qp := ξ qh
    have qt := ξ (ζ YH (ζ hgT (ζ Zw (ζ nT (ζ bT hJT)))))
    clear qh nT YH hgT Zw bT hJT
    go_wp2_with fail
    refine qp.out.mono ?_
    rintro e w5 ⟨K, cap, rfl, vH, Un⟩
    have Kg := HX.out.keeps qt.out.2.2.2.2.2 (vH _)
    have QS := ξ (HFR.out (p + 1) (by omega) w5 (HX.out.iv Kg).tab (qt.out.2.2.2.2.1.keeps (vH (fun _ => False)) id))
    rw [show ((p + 1 : Nat) : Int) = (p : Int) + 1 from by omega] at QS
    have QH := ξ (ζ Kg (ζ vH Un))
    clear Kg vH Un m5 m8 k0 k1 k2 k3 k4 k5 k6 k7 k8 k9 qp
    go_wp2_with fail
    refine QS.out.mono ?_
    rintro e w6 ⟨⟨r, rfl, hr⟩, hw⟩
    subst hw
    have HR := ξ hr
    clear hr QS
    go_wp2
    go_loopw [15] (fun kv wr => ∃ (r : Int) (k0 : Nat) (gs : List Lit) (g : Nat → Bool), kv = .int .i64 r ∧ p + 1 ≤ k0 ∧ yL (fun j => (qd s t).ends p 0 had j) k0 r ∧ fs <+: gs ∧ J E gs wr ∧ qI wr fb (s.length / 64 + 1) g ∧ (∀ j, (g j || zZ k0 s.length (vE s (qd s t) m M p c had j)) = (((fun i => f i || i == p)) j || zZ (p + 1) s.length (vE s (qd s t) m M p c had j))) ∧ qb (fun b => (Mt v b ∨ M2 b) ∨ b = fb) w6 wr) (fun kv _ => msr s.length (RowKit.intOf kv))
    case atStart => exact ⟨r, p + 1, fs, _, rfl, Nat.le_refl _, HR.out, List.prefix_refl _, QH.out.1, qt.out.1.keeps (QH.out.2.1 (fun _ => False)) id, fun j => rfl, qb.refl _ _⟩
    case round =>
     obtain ⟨r2, k0, gs, g, rfl, Vu, Qo, qJ, QW, qv, hg, hK⟩ := hrel
     rcases Qo with ⟨rfl, WO⟩ | ⟨k, rfl, zO, qH, zl⟩
     ·have YI := ξ (ζ qJ (ζ QW (ζ qv hK)))
      have Zk := ξ (ζ hg WO)
      clear qJ QW qv hK hg WO
      go_wp2
      first | go_end0 | refine bodyPost_ret (results_none rfl _ _ _) rfl ?_
      have hKK : qb (fun b => (Mt v b ∨ M2 b) ∨ b = fb) w wr := ((((yg.out _).trans (jW.out.2.2.1.mono (fun i _ e => .inl e))).trans (qt.out.2.2.1.mono (fun i _ e => .inr e))).trans (QH.out.2.1 _)).trans YI.out.2.2.2
      first
      | refine ⟨gs, rfl, ?_, jW.out.2.2.2.1.trans YI.out.1, YI.out.2.1, hKK⟩
      | refine ⟨rfl, ?_, gs, jW.out.2.2.2.1.trans YI.out.1, YI.out.2.1, hKK⟩
      have e : g = (fun j => f j || (qd s (.times m M t)).ends p c had j) := by
       funext j
       have h1 := Zk.out.1 j
       rw [Kl (k0 := k0) (fun i hi => by unfold vE; rw [Zk.out.2 i hi]; rfl), Bool.or_false] at h1
       rw [h1, HEN.out c had j, vS hp, ← Bool.or_assoc, ← qt.out.2.1 j]
       simp only [ne_eq, hM, not_false_eq_true, decide_true, Bool.true_and]
       rfl
      rw [← e]
      exact YI.out.2.2.1
     ·have jl := (YD.out.le p 0 had k jk.out.2.2.1 hp qH).2
      have kR := hK.size
      have qf8 := (QH.out.2.1 (fun _ => False)).size
      have kz : ∀ i, w.heap.size ≤ i → ¬ ((Mt v i ∨ M2 i) ∨ i = fb) := fun i hi e => by
       rcases e with (e | e) | e
       ·rcases e with e | e | e <;> omega
       ·have := ZD.out i e; omega
       ·omega
      have n5 := (qt.out.2.2.2.1.keeps (QH.out.2.1 (fun _ => False)) id).keeps hK (kz _ (by omega))
      obtain ⟨m0, m1, m2, m3, m4, m5, m6, m7, m8, m9⟩ := j9 n5
      have j6 := Zh ⟨6, 0, 0, 0, 0, (q : Int), 0, m, M, 0⟩ c (by omega) hm wr
      unfold Je at j6
      simp only at j6
      obtain ⟨c', kZ⟩ : ∃ c', c' = qO m M c := ⟨_, rfl⟩
      rw [← kZ] at j6
      have ZN := ξ kZ
      have Jd := ξ j6
      have kL := ξ (ζ qJ (ζ hK (ζ QW qv)))
      have Zk := ξ (ζ hg (ζ qH zl))
      clear j6 kZ qJ hK hg QW qv n5 qH zl
      go_wp2_with fail
      refine Jd.out.mono ?_
      rintro e w7 ⟨rfl, hB7⟩
      clear Jd m0 m1 m2 m3 m4 m5 m6 m7 m8 m9
      have Jg : ∀ S, qb S wr w7 := fun S => qb.of_below hB7
      have hsz7 := (Jg (fun _ => False)).size
      have Uk : c' ≤ B ∧ zz (.times m M t) c' := by
       have h1 := jk.out.2.2.2.2
       have h2 := ZN.out
       unfold zz at h1 ⊢
       unfold qO at h2
       simp only at h1 ⊢
       by_cases VA : M = -1
       ·rw [if_pos VA] at h1 h2 ⊢
        omega
       ·rw [if_neg VA] at h1 h2 ⊢
        omega
      have qh := HG.out k (by omega) jl c' (qW (qd s t) (qd s t).asked p had k) E gs w7 fb g K cap Uk.1 Uk.2 (YD.out.left_cap jk.out.2.2.1 (by omega) jl) (HX.out.keeps kL.out.2.2.1 (Jg _)) (fun b hb => by
       have := jk.out.2.1 b hb
       omega) zJ (kL.out.2.2.2.keeps (Jg (fun _ => False)) id) ((QH.out.2.2 k (by omega) jl).mono kL.out.1 ((kL.out.2.1.mono (fun i _ e => e.elim .inl (fun q => .inr (by subst q; exact zJ)))).trans (Jg _)))
      unfold PV at qh
      have qp := ξ qh
      have HK7 := ξ Jg
      clear qh kz Uk hB7 Jg
      go_wp2_with fail
      refine qp.out.mono ?_
      rintro e w8 ⟨hs, rfl, K7, yk, ZI, Qv⟩
      have hbn : ¬ ((Mt v b ∨ M2 b) ∨ b = fb) := fun e => by
       rcases e with (e | e) | e
       ·exact Uo.out.2 e
       ·exact Uo.out.1 e
       ·exact hbf e
      have hbr : qI w8 b (s.length / 64 + 1) (fun j => (qd s t).ends p 0 had j) := (((qt.out.2.2.2.2.1.keeps (QH.out.2.1 (fun _ => False)) id).keeps kL.out.2.1 hbn).keeps (HK7.out (fun _ => False)) id).keeps Qv hbn
      have VG := HFR.out (k + 1) (by omega) w8 (HX.out.iv ZI).tab hbr
      rw [show ((k + 1 : Nat) : Int) = (k : Int) + 1 from by omega] at VG
      have Vr := ξ VG
      have qE := ξ (ζ K7 (ζ yk (ζ ZI Qv)))
      clear VG hbr hbn K7 yk ZI Qv qp
      go_wp2_with fail
      refine Vr.out.mono ?_
      rintro e w9 ⟨⟨r3, rfl, kH⟩, hw⟩
      subst hw
      have VS : r3 = -1 ∨ (k : Int) + 1 ≤ r3 := by
       rcases kH with ⟨e, _⟩ | ⟨k', e, h, _⟩
       ·exact .inl e
       ·exact .inr (by omega)
      have HR3 := ξ kH
      clear kH Vr
      go_wp2
      go_roundw
      case rel =>
       refine ⟨r3, k + 1, hs, _, rfl, by omega, HR3.out, kL.out.1.trans qE.out.2.1, qE.out.2.2.1, qE.out.1, fun j => ?_, (kL.out.2.1.trans (HK7.out _)).trans qE.out.2.2.2⟩
       rw [← Zk.out.1 j, Km zO jl (fun i h1 h2 => by unfold vE; rw [Zk.out.2.2 i h1 h2]; rfl), Bool.or_assoc]
       congr 2
       unfold vE
       rw [Zk.out.2.1, Bool.true_and, qjO.out, ZN.out]
      case measure => exact Vl jl VS
end
section
variable {X : Nat} {v : kU} {s : List UInt8} {xs : List Nd} {B : Nat} {c1 : Lit → Nat} {n1 : Nat} {P1 : Lit → Prop} {c2 : Lit → Nat} {n2 : Nat} {E E' : Nat → Prop} {es : List Lit} {w w' : World}
theorem Iv.upLeft (h : Iv X v s xs B c1 n1 P1 c2 n2 E es w) (fx : Fx v s xs B P1) {n p j q : Nat} {t : T} {had : Cp} {L L' : Lit → Option Value}
  (h2 : ∀ (n p j q : Nat) (u : Value), (n < v.n ∧ p ≤ s.length ∧ j ≤ B ∧ q ≤ n1) → L (Jm n p j q) = some u → ∃ (t : T) (had : Cp), zT (fun i => xs[i]?) t n ∧ qo s.length had ∧ nOf es (qd s t).asked had = some q ∧ u = qk ((qd s t).walk p j (qP had (qd s t).asked)))
  (hk : qb (fun b => b = v.bl) w w') (hm : jq 137 w' v.bl c2 n2 (okS v.n s.length B n1) L') (hL' : ∀ l, l ≠ Jm n p j q → L' l = L l) (hLn : ∀ u, L' (Jm n p j q) = some u → u = qk ((qd s t).walk p j (qP had (qd s t).asked)))
  (hr : n < v.n ∧ p ≤ s.length ∧ j ≤ B ∧ q ≤ n1) (ht : zT (fun i => xs[i]?) t n) (hc : qo s.length had) (hn : nOf es (qd s t).asked had = some q) : Iv X v s xs B c1 n1 P1 c2 n2 E es w' := by
 obtain ⟨l1, l2, l3, l4, l5, l6, l7⟩ := h.lts
 obtain ⟨L0, h1, _⟩ := h.left
 obtain ⟨a1, a2, a3, a4, a5⟩ := h.apart fx h1
 obtain ⟨F, hF, Z3⟩ := h.roles
 obtain ⟨L2, h3, h4⟩ := h.reach
 obtain ⟨e1, e2, e3⟩ := h.ne
 have hmx := h.nums.max
 have emx : maxLen = 9223372036854775807 := by decide
 have qQ := fx.B3; have XJ := fx.n2; have jp := fx.sl
 refine ⟨⟨(hk.block _ l1 a1).trans h.tr.heap⟩, h.nodes.heap_ok (hk.block _ l2 a2), ⟨F, ⟨(hk.block _ l3 a3).trans hF.heap⟩, Z3⟩, fun i hi => ?_, h.nd, h.ky, h.nums.of_heap (hk.block _ l4 e2), ⟨L2, h3.of_heap (hk.block _ l5 e3), fun n' p' c' q' u We hu => ?_⟩, ⟨L', hm, fun n' p' j' q' u We hu => ?_⟩, h.out, h.ne⟩
 ·have e := hk.block _ l7 a4
  have := h.tab i hi
  rw [← this]
  simp only [World.cell?, e]
 ·obtain ⟨b', t', qw, b1, b2, b3, b4, b5, b6, b7⟩ := h4 n' p' c' q' u We hu
  exact ⟨b', t', qw, b1, b2, b3, b4, b5, b6, b7.heap_ok (hk.block _ b7.lt (a5 _ _ _ b7))⟩
 ·by_cases e : Jm n' p' j' q' = Jm n p j q
  ·obtain ⟨i1, i2, i3, i4⟩ := Yl (zH (by omega)) (zH (by omega)) (zH (by omega)) (zH (by omega)) (zH (by omega)) (zH (by omega)) (zH (by omega)) (zH (by omega)) e
   obtain rfl : n' = n := by omega
   obtain rfl : p' = p := by omega
   obtain rfl : j' = j := by omega
   obtain rfl : q' = q := by omega
   exact ⟨t, had, ht, hc, hn, hLn u hu⟩
  ·rw [hL' _ e] at hu
   exact h2 n' p' j' q' u We hu
end
end Go.Proofs.YtjgegohidhdbpaaGreatDoor
