/- A trial: both. -/
import Derived.Test.YtjgegohidhdbpaaGreatDoorJMcN
open Go.Proofs.Tryz
set_option linter.unusedVariables false
set_option linter.unusedSimpArgs false
set_option maxRecDepth 100000
set_option maxHeartbeats 40000000
namespace Go.Proofs.YtjgegohidhdbpaaGreatDoor
open Go.RowKit Go.Maps Go.WideMaps
def msd (p r : Int) : Nat := if r < p then 0 else (r - p).toNat + 1
theorem qjJ {p r r' : Int} (h : p ≤ r) (h2 : r' < r) : msd p r' < msd p r := by
 unfold msd
 rw [show (if r < p then 0 else (r - p).toNat + 1) = (r - p).toNat + 1 from if_neg (by omega)]
 split <;> omega
theorem Vi {p j k : Nat} {f : Nat → Bool} (h1 : p ≤ k) (h2 : k ≤ j) (h : f k = true) (hn : ∀ i, k < i → i ≤ j → f i = false) : greatest p f j = some k := by
 cases hg : greatest p f j with
 | none =>
  have := jb hg k h1 h2
  rw [h] at this; cases this
 | some k' =>
  obtain ⟨a, b, c⟩ := qL hg
  rcases Nat.lt_trichotomy k k' with q | q | q
  ·have := hn k' q b; rw [c] at this; cases this
  ·rw [q]
  ·exfalso
   have zb : ∀ (b : Nat), greatest p f b = some k' → k ≤ b → k' < k → False := fun b => by
    induction b with
    | zero => intro _ h3 h4; omega
    | succ b ih =>
     intro h3 h4 h5
     unfold greatest at h3
     split at h3
     ·cases h3; omega
     ·rename_i kz
      rcases Nat.lt_or_ge b k with r | r
      ·obtain rfl : k = b + 1 := by omega
       exact kz ⟨h1, h⟩
      ·exact ih h3 r h5
   exact zb j hg h2 q
theorem Vh {p j : Nat} {f : Nat → Bool} (hn : ∀ i, p ≤ i → i ≤ j → f i = false) : greatest p f j = none := by
 cases hg : greatest p f j with
 | none => rfl
 | some k =>
  obtain ⟨a, b, c⟩ := qL hg
  have := hn k a b; rw [c] at this; cases this
section
variable {X : Nat} {v : kU} {s : List UInt8} {xs : List Nd} {B : Nat} {c1 : Lit → Nat} {n1 : Nat} {P1 : Lit → Prop} {c2 : Lit → Nat} {n2 : Nat} {M2 : Nat → Prop} {J : (Nat → Prop) → List Lit → World → Prop}
theorem qjD (jx : JX X v s xs B c1 n1 P1 c2 n2 M2 J) (fx : Fx v s xs B P1) (p j pa pb : Nat) (ta tb : T) (hp : p ≤ j) (hj : j ≤ s.length) (la : pa < v.n) (lb : pb < v.n) (Uj : zz ta 0) (Vw : zz tb 0) (hSA : vt s.length (qd s ta)) (hSB : vt s.length (qd s tb))
  (hA : jI X v s B M2 J pa ta p) (hBe : ∀ k, p ≤ k → k ≤ j → jI X v s B M2 J pb tb k)
  (Gu : ∀ (had : Cp) (E : Nat → Prop) (es : List Lit) (w : World), qo s.length had → J E es w → (∀ b, E b → b < w.heap.size) → Calls prog 142 #[.pointer (some ⟨X, 0, none⟩), .int .i64 pa, .int .i64 pb, .int .i64 p, qk had] w fun e w' => ∃ (K : FuncId) (cap : Array Value), e = .returned (.func (.func K) #[] cap) ∧ (∀ S, qb S w w') ∧ ∀ k, p ≤ k → k ≤ s.length → QK v M2 J K cap k (qW (qd s ta) (qd s tb).asked p had k) E es w')
  (hLa : ∀ k, p ≤ k → k ≤ j → kX X v s M2 J pa ta p k) (hLb : ∀ k, p ≤ k → k ≤ j → kX X v s M2 J pb tb k j) : qhD X v s M2 J pa pb ta tb p j := by
 intro had E es w qB hJ hE
 have jp := fx.sl
 have XJ := fx.n2
 have XF := fx.B1
 have iv := jx.iv hJ
 obtain ⟨lX, llb, lrb, lbn, lbr, lbl, lw⟩ := iv.lts
 have ZD := ξ (fun b hb => (jx.lt hJ b hb).1)
 have zl : ∀ S, qb S w (((w.alloc (.cells (nA 4 0 0 0 0 (pa : Int) (pb : Int) 0 0 0) 57)).alloc (.cells (cH had) 27)).alloc (.cells cZ 27)) := fun S => (((qb.refl S w).alloc _).alloc _).alloc _
 have vO : zG (((w.alloc (.cells (nA 4 0 0 0 0 (pa : Int) (pb : Int) 0 0 0) 57)).alloc (.cells (cH had) 27)).alloc (.cells cZ 27)) (w.heap.size + 1) (cH had) 27 := by
  have := (zG.new (w.alloc (.cells (nA 4 0 0 0 0 (pa : Int) (pb : Int) 0 0 0) 57)) (cH had) 27).alloc (.cells cZ 27)
  rw [World.size_alloc] at this
  exact this
 have Yk := ((zG.new w (nA 4 0 0 0 0 (pa : Int) (pb : Int) 0 0 0) 57).alloc (.cells (cH had) 27)).alloc (.cells cZ 27)
 have kH : qm (((w.alloc (.cells (nA 4 0 0 0 0 (pa : Int) (pb : Int) 0 0 0) 57)).alloc (.cells (cH had) 27)).alloc (.cells cZ 27)) (w.heap.size + 2) 10 27 (fun _ => .complex .f64 0 0) := by
  have := qm.new ((w.alloc (.cells (nA 4 0 0 0 0 (pa : Int) (pb : Int) 0 0 0) 57)).alloc (.cells (cH had) 27)) 10 27 (fun _ => .complex .f64 0 0)
  rw [World.size_alloc, World.size_alloc] at this
  exact this
 have JE : (((w.alloc (.cells (nA 4 0 0 0 0 (pa : Int) (pb : Int) 0 0 0) 57)).alloc (.cells (cH had) 27)).alloc (.cells cZ 27)).heap.size = w.heap.size + 3 := by simp
 have k_ := qc.ten (w := (((w.alloc (.cells (nA 4 0 0 0 0 (pa : Int) (pb : Int) 0 0 0) 57)).alloc (.cells (cH had) 27)).alloc (.cells cZ 27))) (b := w.heap.size + 1) (had := had) vO
 have vw : J (fun b => E b ∨ (w.heap.size ≤ b ∧ b < w.heap.size + 3)) es (((w.alloc (.cells (nA 4 0 0 0 0 (pa : Int) (pb : Int) 0 0 0) 57)).alloc (.cells (cH had) 27)).alloc (.cells cZ 27)) := jx.mono (jx.keeps (jx.fresh hJ) (zl _)) (fun b hb => hb.imp id (fun e => e.1))
 have VB : ∀ b, (E b ∨ (w.heap.size ≤ b ∧ b < w.heap.size + 3)) → b < (((w.alloc (.cells (nA 4 0 0 0 0 (pa : Int) (pb : Int) 0 0 0) 57)).alloc (.cells (cH had) 27)).alloc (.cells cZ 27)).heap.size := fun b hb => by
  rw [JE]
  rcases hb with hb | hb
  ·have := hE b hb; omega
  ·omega
 have kz : ∀ b, w.heap.size ≤ b → ¬ (Mt v b ∨ M2 b) := fun b hb e => by
  rcases e with e | e
  ·rcases e with e | e | e <;> omega
  ·have := ZD.out b e; omega
 have qh := Gu had _ es _ qB vw VB
 unfold qk at qh
 have qp := ξ qh
 have HX := ξ jx
 have Qe := ξ qB
 have Zp := ξ zl
 have Zt := ξ (ζ vO (ζ kH Yk))
 have kM := ξ (ζ vw VB)
 have kD := ξ kz
 have HA := ξ hA
 have HBE := ξ hBe
 have HLA := ξ hLa
 have HLB := ξ hLb
 have YD := ξ (ζ hSA hSB)
 clear qh zl vO kH Yk hJ vw hE VB qB kz JE iv jx hA hBe Gu hLa hLb hSA hSB
 unfold qk Je
 go_enter func125, ntmps125
 go_wp2_with fail
 refine qp.out.mono ?_
 rintro e w4 ⟨K, cap, rfl, vn, Un⟩
 have Qr := Zt.out.1.keeps (vn (fun _ => False)) id
 have YE := Zt.out.2.2.keeps (vn (fun _ => False)) id
 have VS : qm w4 (w.heap.size + 2) 10 27 (fun _ => .complex .f64 0 0) := ⟨((vn (fun _ => False)).block _ Zt.out.2.1.lt id).trans Zt.out.2.1.heap⟩
 have m5 : w4.cell? ⟨w.heap.size, 5, none⟩ = some (.int .i64 (pa : Int)) := YE.cell 5
 have l4 : w.heap.size + 3 ≤ w4.heap.size := by have := (vn (fun _ => False)).size; simp at this; omega
 clear k_ qp
 have k_ := qc.ten (w := w4) (b := w.heap.size + 1) (had := had) Qr
 have KN := HX.out.keeps kM.out.1 (vn _)
 have hE4 : ∀ b, (E b ∨ (w.heap.size ≤ b ∧ b < w.heap.size + 3)) → b < w4.heap.size := fun b hb => Nat.lt_of_lt_of_le (kM.out.2 b hb) (vn (fun _ => False)).size
 have qh := HA.out 0 had _ es w4 (by omega) Uj Qe.out KN hE4
 unfold qk PV at qh
 have qp := ξ qh
 have H4 := ξ (ζ Qr (ζ YE (ζ VS (ζ hE4 (fun S => (Zp.out S).trans (vn S))))))
 have HLC := ξ Un
 clear qh Qr YE VS KN hE4 vn Un
 go_wp2_with fail
 refine qp.out.mono ?_
 rintro e w5 ⟨b, fs, rfl, Vo, hbE, qeq, JT, hbM, vi, Kg, vH⟩
 have HUP := ξ (fun (q : Nat) (hq : q ≤ s.length) (W : World) (h : qI W b (s.length / 64 + 1) (fun j => (qd s ta).ends p 0 had j)) => Gf b (s.length / 64 + 1) (s.length / 64 + 1) q _ (by omega) (by omega) W h)
 have hup := HUP.out j hj w5 Vo
 have qeC := ξ hup
 have l5 : w.heap.size + 3 ≤ w5.heap.size := by have := vH.size; omega
 have H5 := ξ (ζ Vo (ζ Kg (ζ vH vi)))
 have Uo : Hid (¬ (Mt v b ∨ M2 b)) := ξ (fun e => e.elim hbM JT)
 clear hup Vo Kg vH vi hbM JT hbE m5 k_ qp
 go_wp2_with fail
 refine qeC.out.mono ?_
 rintro e w6 ⟨⟨r, rfl, hr⟩, rfl⟩
 have HR := ξ hr
 clear hr qeC
 go_wp2
 go_loopw [13] (fun kv wr => ∃ (r : Int) (q : Int) (gs : List Lit), kv = .int .i64 r ∧ q ≤ j ∧ XW (fun j => (qd s ta).ends p 0 had j) q r ∧ (∀ k : Nat, q < (k : Int) → k ≤ j → kf (qd s ta) (qd s tb) p j had k = false) ∧ fs <+: gs ∧ J (fun b => E b ∨ (w.heap.size ≤ b ∧ b < w.heap.size + 3)) gs wr ∧ qb (fun b => Mt v b ∨ M2 b) w6 wr) (fun kv _ => msd p (RowKit.intOf kv))
 case atStart => exact ⟨r, j, fs, rfl, Int.le_refl _, HR.out, fun k h1 h2 => by omega, List.prefix_refl _, H5.out.2.1, qb.refl _ _⟩
 case round =>
  obtain ⟨r2, q, gs, rfl, hqj, Qo, XC, qJ, QW, hK⟩ := hrel
  have kR := hK.size
  have XS : qb (fun b => Mt v b ∨ M2 b) w4 wr := H5.out.2.2.1.trans hK
  have br := H4.out.1.keeps XS (kD.out _ (by omega))
  have nr := H4.out.2.1.keeps XS (kD.out _ (by omega))
  have rr : qm wr (w.heap.size + 2) 10 27 (fun _ => .complex .f64 0 0) := ⟨(XS.block _ H4.out.2.2.1.lt (kD.out _ (by omega))).trans H4.out.2.2.1.heap⟩
  have Vp : qI wr b (s.length / 64 + 1) (fun j => (qd s ta).ends p 0 had j) := H5.out.1.keeps hK Uo.out
  have hEr : ∀ b, (E b ∨ (w.heap.size ≤ b ∧ b < w.heap.size + 3)) → b < wr.heap.size := fun b hb => by
   have := H4.out.2.2.2.1 b hb
   have := XS.size
   omega
  have lr : w.heap.size + 3 ≤ wr.heap.size := by omega
  have hpr := H5.out.2.2.2.trans qJ
  have jC := (H4.out.2.2.2.2 _).trans XS
  by_cases hrp : (p : Int) ≤ r2
  ·rcases Qo with ⟨rfl, _⟩ | ⟨k, rfl, zO, qH, zl⟩
   ·omega
   have hkp : p ≤ k := by omega
   have Jl : k ≤ j := by omega
   have hm3 : wr.cell? ⟨w.heap.size, 6, none⟩ = some (.int .i64 (pb : Int)) := nr.cell 6
   obtain ⟨qbN, YF⟩ := HLC.out k hkp (by omega)
   have hent2 : (callFunc K (#[.int .i64 (k : Int)] ++ cap)).run prog wr = .ok (.enter K (#[.int .i64 (k : Int)] ++ cap)) wr := qbN wr
   have YU := YF gs wr.drew hpr (HX.out.keeps QW (qb.refl _ wr).drew) (XS.drew.mono (fun i _ e => .inl e))
   obtain ⟨QY, VV⟩ : ∃ d, d = qW (qd s ta) (qd s tb).asked p had k := ⟨_, rfl⟩
   rw [← VV] at YU
   have hcd : qo s.length QY := by rw [VV]; exact YD.out.1.left_cap Qe.out hkp (by omega)
   have qeD : kf (qd s ta) (qd s tb) p j had k = (qd s tb).ends k 0 QY j := by
    show ((qd s ta).ends p 0 had k && _) = _
    rw [show (qd s ta).ends p 0 had k = true from qH, Bool.true_and, VV]
   have HL1 := ξ YU
   have qgL := ξ qbN
   have vC := ξ (ζ br (ζ nr (ζ rr (ζ Vp (ζ hEr (ζ hpr jC))))))
   have HQ := ξ (ζ XC (ζ qH (ζ zl (ζ hcd (ζ qeD (ζ hK qJ))))))
   clear YU qbN YF br nr rr Vp hEr hpr jC XC qH zl hcd qeD VV XS kR hK qJ
   go_wp2_with fail
   refine wp_region_noPanic ?_
   refine wp_region_held_drew (S := fun w' => w'.cell? ⟨w.heap.size, 6, none⟩ = some (.int .i64 (pb : Int)) ∧ ∃ gs2 : List Lit, gs <+: gs2 ∧ J (fun b => E b ∨ (w.heap.size ≤ b ∧ b < w.heap.size + 3)) gs2 w' ∧ qb (fun b => Mt v b ∨ M2 b) wr w') (by kernel_rfl) ?_ (fun qe => ?_)
   ·(try dsimp only); exact ⟨hm3, gs, List.prefix_refl _, HX.out.keeps QW (qb.refl _ wr).drew, (qb.refl _ wr).drew⟩
   refine tq 0 ?_ (hy := by (intro wq qi; (try dsimp only at qi); (try obtain ⟨cc, _⟩ := qi); go_simp); (try rfl))
   refine tq 1 ?_ (hy := by (intro wq qi; (try dsimp only at qi); (try obtain ⟨cc, _⟩ := qi); go_simp); (try rfl))
   refine tq 2 ?_ (hy := by (intro wq qi; (try dsimp only at qi); (try obtain ⟨cc, _⟩ := qi); go_simp); (try rfl))
   refine tq 3 ?_ (hy := by (intro wq qi; (try dsimp only at qi); (try obtain ⟨cc, _⟩ := qi); go_simp); (try rfl))
   refine tq 4 ?_ (hy := by (intro wq qi; (try dsimp only at qi); (try obtain ⟨cc, _⟩ := qi); go_simp); (try rfl))
   refine tq 5 ?_ (hy := by (intro wq qi; (try dsimp only at qi); (try obtain ⟨cc, _⟩ := qi); go_simp); (try rfl))
   refine tq 8 ?_ (hy := by (intro wq qi; (try dsimp only at qi); (try obtain ⟨cc, _⟩ := qi); go_simp); (try rfl))
   have qeE := qgL.out
   refine zU 6 fun K hK => ?_
   go_simp
   refine HL1.out.mono ?_
   rintro e wN ⟨g2, rfl, K1, vV, hkN⟩
   have nrN := vC.out.2.1.drew.keeps hkN (kD.out _ (by omega))
   have hkrN : qb (fun b => Mt v b ∨ M2 b) wr wN := (qb.refl _ wr).drew.trans hkN
   have HN := ξ (ζ K1 (ζ vV hkrN))
   clear K1 vV hkN hkrN
   refine hK.out _ _ ?_ (fun qe => ?_)
   ·(try dsimp only); exact ⟨nrN.cell 6, g2, HN.out⟩
   clear hK K nrN
   (try simp only [Act.put, zm])
   refine zU 7 fun K hK => ?_
   go_simp
   have qh := HBE.out k hkp Jl 0 QY _ g2 wN (by omega) Vw HQ.out.2.2.2.1 HN.out.2.1 (fun b hb => Nat.lt_of_lt_of_le (vC.out.2.2.2.2.1 b hb) HN.out.2.2.size)
   unfold qk PV at qh
   refine qh.mono ?_
   rintro e wM ⟨b2, g3, rfl, zk, _, _, _, _, Yf, vw, hkM⟩
   have Gz := HN.out.2.2.trans hkM
   have nrM := vC.out.2.1.keeps Gz (kD.out _ (by omega))
   have HM := ξ (ζ (HN.out.1.trans Yf) (ζ vw Gz))
   have QQ := ξ (Ys b2 (s.length / 64 + 1) (s.length / 64 + 1) j _ (by omega) (by omega) wM zk)
   clear qh zk Yf vw hkM Gz
   refine hK.out _ _ ?_ (fun qe => ?_)
   ·(try dsimp only); exact ⟨nrM.cell 6, g3, HM.out⟩
   clear hK K nrM
   (try simp only [Act.put, zm])
   refine zU 9 fun K hK => ?_
   go_simp
   refine QQ.out.mono ?_
   rintro e wL ⟨rfl, rfl⟩
   refine hK.out _ _ ?_ (fun qe => ?_)
   ·(try dsimp only); exact qe
   clear hK K QQ qe
   (try simp only [Act.put, zm])
   refine wpAnyH_done (by kernel_rfl) ?_ _
   refine NoPanic.normal ?_
   have br := vC.out.1.keeps HM.out.2.2 (kD.out _ (by omega))
   have nr := vC.out.2.1.keeps HM.out.2.2 (kD.out _ (by omega))
   have rr : qm wL (w.heap.size + 2) 10 27 (fun _ => .complex .f64 0 0) := ⟨(HM.out.2.2.block _ vC.out.2.2.1.lt (kD.out _ (by omega))).trans vC.out.2.2.1.heap⟩
   have YG : qI wL b (s.length / 64 + 1) (fun j => (qd s ta).ends p 0 had j) := vC.out.2.2.2.1.keeps HM.out.2.2 Uo.out
   have HRR := ξ (ζ br (ζ nr (ζ rr YG)))
   have lL : w.heap.size + 3 ≤ wL.heap.size := by have := HM.out.2.2.size; omega
   clear br nr rr YG hm3 qeE HL1 qgL
   cases hq : (qd s tb).ends k 0 QY j with
   | false =>
    have qeF : Hid (Calls prog 43 #[.slice (some ⟨b, 0, none⟩) (s.length / 64 + 1) (s.length / 64 + 1), .int .i64 ((k : Int) - 1)] wL fun e w' => (∃ r, e = .returned (.int .i64 r) ∧ XW (fun j => (qd s ta).ends p 0 had j) ((k : Int) - 1) r) ∧ w' = wL) := by
     refine ξ ?_
     rcases Nat.eq_zero_or_pos k with h0 | h0
     ·subst h0
      refine (qd8 _ _ (by omega) wL).mono ?_
      rintro e w' ⟨rfl, rfl⟩
      exact ⟨⟨-1, rfl, .inl ⟨rfl, fun i hi => by omega⟩⟩, rfl⟩
     ·have := HUP.out (k - 1) (by omega) wL HRR.out.2.2.2
      rw [show ((k - 1 : Nat) : Int) = (k : Int) - 1 by omega] at this
      exact this
    have XH : kf (qd s ta) (qd s tb) p j had k = false := by rw [HQ.out.2.2.2.2.1]; exact hq
    have HCK := ξ XH
    clear XH hq
    go_wp2_with fail
    refine qeF.out.mono ?_
    rintro e wK ⟨⟨r3, rfl, kH⟩, rfl⟩
    have HR3 := ξ kH
    have VS : r3 < (k : Int) := by
     rcases kH with ⟨e, _⟩ | ⟨k', e, h, _⟩
     ·omega
     ·omega
    clear kH qeF
    go_wp2
    go_roundw
    case rel =>
     refine ⟨r3, (k : Int) - 1, g3, rfl, by omega, HR3.out, fun i h1 h2 => ?_, HQ.out.2.2.2.2.2.2.trans HM.out.1, HM.out.2.1, HQ.out.2.2.2.2.2.1.trans HM.out.2.2⟩
     rcases (by omega : i = k ∨ k < i) with q1 | q1
     ·subst q1; exact HCK.out
     ·rcases (by omega : (i : Int) ≤ q ∨ q < i) with q2 | q2
      ·show ((qd s ta).ends p 0 had i && _) = false
       rw [show (qd s ta).ends p 0 had i = false from HQ.out.2.2.1 i q1 q2]; rfl
      ·exact HQ.out.1 i q2 h2
    case measure => exact qjJ (by show (p : Int) ≤ (k : Int); omega) VS
   | true =>
    have XH : kf (qd s ta) (qd s tb) p j had k = true := by rw [HQ.out.2.2.2.2.1]; exact hq
    have hg : greatest p (kf (qd s ta) (qd s tb) p j had) j = some k := Vi hkp Jl XH (fun i h1 h2 => by
     rcases (by omega : (i : Int) ≤ q ∨ q < i) with q2 | q2
     ·show ((qd s ta).ends p 0 had i && _) = false
      rw [show (qd s ta).ends p 0 had i = false from HQ.out.2.2.1 i h1 q2]; rfl
     ·exact HQ.out.1 i q2 h2)
    obtain ⟨Z1, hZ1⟩ : ∃ Z, Z = (qd s ta).leave p k had := ⟨_, rfl⟩
    obtain ⟨Z, hZ⟩ : ∃ Z, Z = (qd s tb).leave k j Z1 := ⟨_, rfl⟩
    have kF : qo s.length Z1 := by rw [hZ1]; exact YD.out.1.leave_cap Qe.out hkp (by omega)
    have hw : (qd s (.two 4 ta tb)).walk p j had = Z := by
     show (match greatest p (kf (qd s ta) (qd s tb) p j had) j with | some k => (qd s tb).leave k j ((qd s ta).leave p k had) | none => had) = Z
     rw [hg, hZ, hZ1]
    have yp := HLA.out k hkp Jl had _ g3 wL.drew Qe.out (HX.out.keeps HM.out.2.1 (qb.refl _ wL).drew) (fun b hb => Nat.lt_of_lt_of_le (vC.out.2.2.2.2.1 b hb) HM.out.2.2.size)
    rw [← hZ1] at yp
    unfold qk at yp
    have HC1 := ξ yp
    have HZ := ξ (ζ hw (ζ hZ kF))
    clear XH hg hZ1 hZ hw kF yp hq
    go_wp2_with fail
    refine wp_region_noPanic ?_
    refine wp_region_held_drew (S := fun w' => zG w' w.heap.size (nA 4 0 0 0 0 (pa : Int) (pb : Int) 0 0 0) 57 ∧ zG w' (w.heap.size + 1) (cH had) 27) (by kernel_rfl) ?_ (fun qe => ?_)
    ·(try dsimp only); exact ⟨HRR.out.2.1.drew, HRR.out.1.drew⟩
    refine tq 0 ?_ (hy := by (intro wq qi; obtain ⟨sn, sc⟩ := qi; have n5 : wq.cell? ⟨w.heap.size, 5, none⟩ = some (.int .i64 (pa : Int)) := sn.cell 5; have n6 : wq.cell? ⟨w.heap.size, 6, none⟩ = some (.int .i64 (pb : Int)) := sn.cell 6; have e_ := qc.ten (w := wq) (b := w.heap.size + 1) (had := had) sc; go_simp); (try rfl))
    refine tq 1 ?_ (hy := by (intro wq qi; obtain ⟨sn, sc⟩ := qi; have n5 : wq.cell? ⟨w.heap.size, 5, none⟩ = some (.int .i64 (pa : Int)) := sn.cell 5; have n6 : wq.cell? ⟨w.heap.size, 6, none⟩ = some (.int .i64 (pb : Int)) := sn.cell 6; have e_ := qc.ten (w := wq) (b := w.heap.size + 1) (had := had) sc; go_simp); (try rfl))
    refine tq 2 ?_ (hy := by (intro wq qi; obtain ⟨sn, sc⟩ := qi; have n5 : wq.cell? ⟨w.heap.size, 5, none⟩ = some (.int .i64 (pa : Int)) := sn.cell 5; have n6 : wq.cell? ⟨w.heap.size, 6, none⟩ = some (.int .i64 (pb : Int)) := sn.cell 6; have e_ := qc.ten (w := wq) (b := w.heap.size + 1) (had := had) sc; go_simp); (try rfl))
    refine tq 3 ?_ (hy := by (intro wq qi; obtain ⟨sn, sc⟩ := qi; have n5 : wq.cell? ⟨w.heap.size, 5, none⟩ = some (.int .i64 (pa : Int)) := sn.cell 5; have n6 : wq.cell? ⟨w.heap.size, 6, none⟩ = some (.int .i64 (pb : Int)) := sn.cell 6; have e_ := qc.ten (w := wq) (b := w.heap.size + 1) (had := had) sc; go_simp); (try rfl))
    refine tq 4 ?_ (hy := by (intro wq qi; obtain ⟨sn, sc⟩ := qi; have n5 : wq.cell? ⟨w.heap.size, 5, none⟩ = some (.int .i64 (pa : Int)) := sn.cell 5; have n6 : wq.cell? ⟨w.heap.size, 6, none⟩ = some (.int .i64 (pb : Int)) := sn.cell 6; have e_ := qc.ten (w := wq) (b := w.heap.size + 1) (had := had) sc; go_simp); (try rfl))
    refine tq 5 ?_ (hy := by (intro wq qi; obtain ⟨sn, sc⟩ := qi; have n5 : wq.cell? ⟨w.heap.size, 5, none⟩ = some (.int .i64 (pa : Int)) := sn.cell 5; have n6 : wq.cell? ⟨w.heap.size, 6, none⟩ = some (.int .i64 (pb : Int)) := sn.cell 6; have e_ := qc.ten (w := wq) (b := w.heap.size + 1) (had := had) sc; go_simp); (try rfl))
    refine tq 6 ?_ (hy := by (intro wq qi; obtain ⟨sn, sc⟩ := qi; have n5 : wq.cell? ⟨w.heap.size, 5, none⟩ = some (.int .i64 (pa : Int)) := sn.cell 5; have n6 : wq.cell? ⟨w.heap.size, 6, none⟩ = some (.int .i64 (pb : Int)) := sn.cell 6; have e_ := qc.ten (w := wq) (b := w.heap.size + 1) (had := had) sc; go_simp); (try rfl))
    refine tq 7 ?_ (hy := by (intro wq qi; obtain ⟨sn, sc⟩ := qi; have n5 : wq.cell? ⟨w.heap.size, 5, none⟩ = some (.int .i64 (pa : Int)) := sn.cell 5; have n6 : wq.cell? ⟨w.heap.size, 6, none⟩ = some (.int .i64 (pb : Int)) := sn.cell 6; have e_ := qc.ten (w := wq) (b := w.heap.size + 1) (had := had) sc; go_simp); (try rfl))
    refine tq 8 ?_ (hy := by (intro wq qi; obtain ⟨sn, sc⟩ := qi; have n5 : wq.cell? ⟨w.heap.size, 5, none⟩ = some (.int .i64 (pa : Int)) := sn.cell 5; have n6 : wq.cell? ⟨w.heap.size, 6, none⟩ = some (.int .i64 (pb : Int)) := sn.cell 6; have e_ := qc.ten (w := wq) (b := w.heap.size + 1) (had := had) sc; go_simp); (try rfl))
    refine tq 9 ?_ (hy := by (intro wq qi; obtain ⟨sn, sc⟩ := qi; have n5 : wq.cell? ⟨w.heap.size, 5, none⟩ = some (.int .i64 (pa : Int)) := sn.cell 5; have n6 : wq.cell? ⟨w.heap.size, 6, none⟩ = some (.int .i64 (pb : Int)) := sn.cell 6; have e_ := qc.ten (w := wq) (b := w.heap.size + 1) (had := had) sc; go_simp); (try rfl))
    refine tq 10 ?_ (hy := by (intro wq qi; obtain ⟨sn, sc⟩ := qi; have n5 : wq.cell? ⟨w.heap.size, 5, none⟩ = some (.int .i64 (pa : Int)) := sn.cell 5; have n6 : wq.cell? ⟨w.heap.size, 6, none⟩ = some (.int .i64 (pb : Int)) := sn.cell 6; have e_ := qc.ten (w := wq) (b := w.heap.size + 1) (had := had) sc; go_simp); (try rfl))
    refine zU 11 fun K hK => ?_
    go_simp
    refine HC1.out.mono ?_
    rintro e wP ⟨g4, rfl, vA, KN, hkP⟩
    have hkrP : qb (fun b => Mt v b ∨ M2 b) wr wP := (HM.out.2.2.drew).trans hkP
    have HP := ξ (ζ (HM.out.1.trans vA) (ζ KN hkrP))
    clear vA KN hkP hkrP
    refine hK.out _ _ ?_ (fun qe => ?_)
    ·(try dsimp only); exact ⟨vC.out.2.1.keeps HP.out.2.2 (kD.out _ (by omega)), vC.out.1.keeps HP.out.2.2 (kD.out _ (by omega))⟩
    clear hK K
    (try simp only [Act.put, zm])
    refine zU 12 fun K hK => ?_
    go_simp
    have vI := HLB.out k hkp Jl Z1 _ g4 wP HZ.out.2.2 HP.out.2.1 (fun b hb => Nat.lt_of_lt_of_le (vC.out.2.2.2.2.1 b hb) HP.out.2.2.size)
    rw [← HZ.out.2.1] at vI
    unfold qk at vI
    refine vI.mono ?_
    rintro e wR ⟨g5, rfl, vi, Kg, hkR⟩
    have qgP := HP.out.2.2.trans hkR
    have hrR : qm wR (w.heap.size + 2) 10 27 (fun _ => .complex .f64 0 0) := ⟨(qgP.block _ vC.out.2.2.1.lt (kD.out _ (by omega))).trans vC.out.2.2.1.heap⟩
    have HRX := ξ (ζ (HP.out.1.trans vi) (ζ Kg qgP))
    have lR : w.heap.size + 3 ≤ wR.heap.size := by have := qgP.size; omega
    clear vI vi Kg hkR qgP
    refine hK.out _ _ ?_ (fun qe => ?_)
    ·(try dsimp only); exact ⟨vC.out.2.1.keeps HRX.out.2.2 (kD.out _ (by omega)), vC.out.1.keeps HRX.out.2.2 (kD.out _ (by omega))⟩
    clear hK K
    (try simp only [Act.put, zm])
    obtain ⟨r0, r1, r2, r3, r4, r5, r6, r7, r8, r9, f0, f1, f2, f3, f4, f5, f6, f7, f8, f9⟩ := hrR.rf10
    have zI := ξ (kn (w := wR) (b := w.heap.size + 2) Z)
    have za := ξ (qV (w := wR) (b := w.heap.size + 2) hrR Z)
    clear hrR
    refine zU 13 fun K hK => ?_
    have Qc := zI.out
    go_simp
    refine hK.out _ _ ?_ (fun qe => ?_)
    ·(try dsimp only); exact ⟨(vC.out.2.1.keeps HRX.out.2.2 (kD.out _ (by omega))).keeps Qc (by omega), (vC.out.1.keeps HRX.out.2.2 (kD.out _ (by omega))).keeps Qc (by omega)⟩
    clear hK K qe Qc
    (try simp only [Act.put, zm])
    refine wpAnyH_done (by kernel_rfl) ?_ _
    refine NoPanic.normal ?_
    go_wp2
    refine bodyPost_ret (v := .agg (cH Z)) (by simp [results, results125, go_sem, za.out]) rfl ⟨g5, ?_, vC.out.2.2.2.2.2.1.trans HRX.out.1, HX.out.mono (HX.out.keeps HRX.out.2.1 (zI.out.mono (fun i _ e => .inr (by subst e; omega)))) (fun b hb => .inl hb), (vC.out.2.2.2.2.2.2.trans HRX.out.2.2).trans2 zI.out (fun i hi e => by omega)⟩
    show Ending.returned (qk Z) = _
    rw [HZ.out.1]
    rfl
  ·have hg : greatest p (kf (qd s ta) (qd s tb) p j had) j = none := Vh (fun i h1 h2 => by
    rcases (by omega : (i : Int) ≤ q ∨ q < i) with q2 | q2
    ·show ((qd s ta).ends p 0 had i && _) = false
     have : (qd s ta).ends p 0 had i = false := by
      rcases Qo with ⟨_, hz⟩ | ⟨k, Vu, _, _, zl⟩
      ·exact hz i q2
      ·exact zl i (by omega) q2
     rw [this]; rfl
    ·exact XC i q2 h2)
   have hw : (qd s (.two 4 ta tb)).walk p j had = had := by
    show (match greatest p (kf (qd s ta) (qd s tb) p j had) j with | some k => (qd s tb).leave k j ((qd s ta).leave p k had) | none => had) = had
    rw [hg]
   have k_ := qc.ten (w := wr) (b := w.heap.size + 1) (had := had) br
   have HZ := ξ hw
   have qt := ξ (ζ hpr (ζ QW jC))
   clear hw hg XC Qo hpr QW jC hK XS qJ Vp hEr br nr
   obtain ⟨r0, r1, r2, r3, r4, r5, r6, r7, r8, r9, f0, f1, f2, f3, f4, f5, f6, f7, f8, f9⟩ := rr.rf10
   have zI := ξ (kn (w := wr) (b := w.heap.size + 2) had)
   have za := ξ (qV (w := wr) (b := w.heap.size + 2) rr had)
   clear rr
   go_wp2
   refine bodyPost_ret (v := .agg (cH had)) (by simp [results, results125, go_sem, za.out]) rfl ⟨?_, gs, qt.out.1, HX.out.mono (HX.out.keeps qt.out.2.1 (zI.out.mono (fun i _ e => .inr (by subst e; omega)))) (fun b hb => .inl hb), qt.out.2.2.trans2 zI.out (fun i hi e => by omega)⟩
   show Ending.returned (qk had) = Ending.returned (qk ((qd s (.two 4 ta tb)).walk p j had))
   rw [HZ.out]
end
end Go.Proofs.YtjgegohidhdbpaaGreatDoor
