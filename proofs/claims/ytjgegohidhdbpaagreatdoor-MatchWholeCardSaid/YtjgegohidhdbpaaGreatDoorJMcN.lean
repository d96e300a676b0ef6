/- A trial: walk at alternatives, and by way of both and repeat. -/
import Derived.Test.YtjgegohidhdbpaaGreatDoorJMcM
open Go.Proofs.Tryz
set_option linter.unusedVariables false
set_option linter.unusedSimpArgs false
set_option maxRecDepth 100000
set_option maxHeartbeats 40000000
namespace Go.Proofs.YtjgegohidhdbpaaGreatDoor
open Go.RowKit Go.Maps Go.WideMaps
section
variable (X : Nat) (v : kU) (s : List UInt8) (M2 : Nat → Prop) (J : (Nat → Prop) → List Lit → World → Prop)
def qhD (pa pb : Nat) (ta tb : T) (p j : Nat) : Prop := ∀ (had : Cp) (E : Nat → Prop) (es : List Lit) (w : World), qo s.length had → J E es w → (∀ b, E b → b < w.heap.size) →
 Calls prog 125 #[.pointer (some ⟨X, 0, none⟩), Je ⟨4, 0, 0, 0, 0, (pa : Int), (pb : Int), 0, 0, 0⟩, .int .i64 p, .int .i64 j, qk had] w fun e w' => ∃ fs : List Lit, e = .returned (qk ((qd s (.two 4 ta tb)).walk p j had)) ∧ es <+: fs ∧ J E fs w' ∧ qb (fun b => Mt v b ∨ M2 b) w w'
def RepC (n : Nat) (t : T) (p j : Nat) : Prop := ∀ (had : Cp) (E : Nat → Prop) (es : List Lit) (w : World), qo s.length had → J E es w → (∀ b, E b → b < w.heap.size) →
 Calls prog 126 #[.pointer (some ⟨X, 0, none⟩), .int .i64 n, .int .i64 p, .int .i64 j, qk had] w fun e w' => ∃ fs : List Lit, e = .returned (qk ((qd s t).walk p j had)) ∧ es <+: fs ∧ J E fs w' ∧ qb (fun b => Mt v b ∨ M2 b) w w'
end
section
variable {X : Nat} {v : kU} {s : List UInt8} {xs : List Nd} {B : Nat} {c1 : Lit → Nat} {n1 : Nat} {P1 : Lit → Prop} {c2 : Lit → Nat} {n2 : Nat} {M2 : Nat → Prop} {J : (Nat → Prop) → List Lit → World → Prop}
theorem VU (jx : JX X v s xs B c1 n1 P1 c2 n2 M2 J) (fx : Fx v s xs B P1) (n p j pa pb : Nat) (ta tb : T) (hn : n < v.n) (hp : p ≤ j) (hj : j ≤ s.length) (hx : xs[n]? = some ⟨4, 0, 0, 0, 0, (pa : Int), (pb : Int), 0, 0, 0⟩) (hBo : qhD X v s M2 J pa pb ta tb p j) : WalkC X v s M2 J n (.two 4 ta tb) p j := by
 intro had E es w qB hJ hE
 have jp := fx.sl
 have XJ := fx.n2
 have XF := fx.B1
 have iv := jx.iv hJ
 obtain ⟨lX, llb, lrb, lbn, lbr, lbl, lw⟩ := iv.lts
 have ZD := ξ (fun b hb => (jx.lt hJ b hb).1)
 have qH : ∀ S, qb S w ((w.alloc (.cells (cH had) 27)).alloc (.cells cZ 27)) := fun S => ((qb.refl S w).alloc _).alloc _
 have zl : ∀ S, qb S w (((w.alloc (.cells (cH had) 27)).alloc (.cells cZ 27)).alloc (.cells (nA 4 0 0 0 0 (pa : Int) (pb : Int) 0 0 0) 57)) := fun S => (qH S).alloc _
 have iv2 := iv.keeps (qH _)
 have x0 := iv2.tr.c0
 have d := iv2.nodes.cell n _ hx
 have d_ := zB d
 have vO := ((qc w had).alloc (.cells cZ 27)).alloc (.cells (nA 4 0 0 0 0 (pa : Int) (pb : Int) 0 0 0) 57)
 have JE : (((w.alloc (.cells (cH had) 27)).alloc (.cells cZ 27)).alloc (.cells (nA 4 0 0 0 0 (pa : Int) (pb : Int) 0 0 0) 57)).heap.size = w.heap.size + 3 := by simp
 have k_ := qc.ten (w := (((w.alloc (.cells (cH had) 27)).alloc (.cells cZ 27)).alloc (.cells (nA 4 0 0 0 0 (pa : Int) (pb : Int) 0 0 0) 57))) (b := w.heap.size) (had := had) vO
 have kH : qm (((w.alloc (.cells (cH had) 27)).alloc (.cells cZ 27)).alloc (.cells (nA 4 0 0 0 0 (pa : Int) (pb : Int) 0 0 0) 57)) (w.heap.size + 1) 10 27 (fun _ => .complex .f64 0 0) := by
  have := qm.new (w.alloc (.cells (cH had) 27)) 10 27 (fun _ => .complex .f64 0 0)
  rw [World.size_alloc] at this
  exact ⟨heap_alloc _ this.heap⟩
 have Yk : zG (((w.alloc (.cells (cH had) 27)).alloc (.cells cZ 27)).alloc (.cells (nA 4 0 0 0 0 (pa : Int) (pb : Int) 0 0 0) 57)) (w.heap.size + 2) (nA 4 0 0 0 0 (pa : Int) (pb : Int) 0 0 0) 57 := by
  have := zG.new ((w.alloc (.cells (cH had) 27)).alloc (.cells cZ 27)) (nA 4 0 0 0 0 (pa : Int) (pb : Int) 0 0 0) 57
  rw [World.size_alloc, World.size_alloc] at this
  exact this
 have vw : J (fun b => E b ∨ (w.heap.size ≤ b ∧ b < w.heap.size + 3)) es (((w.alloc (.cells (cH had) 27)).alloc (.cells cZ 27)).alloc (.cells (nA 4 0 0 0 0 (pa : Int) (pb : Int) 0 0 0) 57)) := jx.mono (jx.keeps (jx.fresh hJ) (zl _)) (fun b hb => hb.imp id (fun e => e.1))
 have VB : ∀ b, (E b ∨ (w.heap.size ≤ b ∧ b < w.heap.size + 3)) → b < (((w.alloc (.cells (cH had) 27)).alloc (.cells cZ 27)).alloc (.cells (nA 4 0 0 0 0 (pa : Int) (pb : Int) 0 0 0) 57)).heap.size := fun b hb => by
  rw [JE]
  rcases hb with hb | hb
  ·have := hE b hb; omega
  ·omega
 have kz : ∀ b, w.heap.size ≤ b → ¬ (Mt v b ∨ M2 b) := fun b hb e => by
  rcases e with e | e
  ·rcases e with e | e | e <;> omega
  ·have := ZD.out b e; omega
 have HX := ξ jx
 have HE := ξ hE
 have Qe := ξ qB
 have Zp := ξ zl
 have Zt := ξ (ζ vO (ζ kH Yk))
 have kM := ξ (ζ vw VB)
 have kD := ξ kz
 have qh := hBo had _ es _ qB vw VB
 obtain ⟨Z, hZ⟩ : ∃ Z, Z = (qd s (.two 4 ta tb)).walk p j had := ⟨_, rfl⟩
 rw [← hZ] at qh
 unfold qk at qh
 (try unfold Je at qh)
 have qp := ξ qh
 have HZ := ξ hZ
 clear qh hZ hx
 clear d qH zl iv iv2 vO kH Yk hJ vw hE VB qB kz jx JE
 unfold qk
 go_enter func101, ntmps101
 go_wp2_with fail
 refine qp.out.mono ?_
 rintro e w5 ⟨gs, rfl, vi, Kg, vH⟩
 have Vg : qm w5 (w.heap.size + 1) 10 27 (fun _ => .complex .f64 0 0) := ⟨(vH.block _ Zt.out.2.1.lt (kD.out _ (by omega))).trans Zt.out.2.1.heap⟩
 have qeH := (Zp.out _).trans vH
 have l5 : w.heap.size + 3 ≤ w5.heap.size := by have := vH.size; simp at this; omega
 clear vH
 have r_ := Vg.rf10
 have zI := ξ (kn (w := w5) (b := w.heap.size + 1) Z)
 have za := ξ (qV (w := w5) (b := w.heap.size + 1) Vg Z)
 clear Vg
 have qt := ξ (ζ vi (ζ Kg qeH))
 clear vi Kg qeH
 go_wp2
 refine bodyPost_ret (v := .agg (cH Z)) (by simp [results, results101, go_sem, za.out]) rfl ⟨gs, ?_, qt.out.1, HX.out.mono (HX.out.keeps qt.out.2.1 (zI.out.mono (fun i _ e => .inr (by subst e; omega)))) (fun b hb => .inl hb), qt.out.2.2.trans2 zI.out (fun i hi e => by omega)⟩
 show Ending.returned (qk Z) = _
 rw [HZ.out]
 rfl
theorem XA (jx : JX X v s xs B c1 n1 P1 c2 n2 M2 J) (fx : Fx v s xs B P1) (n p j q : Nat) (m M : Int) (t : T) (hn : n < v.n) (hp : p ≤ j) (hj : j ≤ s.length) (hx : xs[n]? = some ⟨6, 0, 0, 0, 0, (q : Int), 0, m, M, 0⟩) (hRe : RepC X v s M2 J n (.times m M t) p j) : WalkC X v s M2 J n (.times m M t) p j := by
 intro had E es w qB hJ hE
 have jp := fx.sl
 have XJ := fx.n2
 have XF := fx.B1
 have iv := jx.iv hJ
 obtain ⟨lX, llb, lrb, lbn, lbr, lbl, lw⟩ := iv.lts
 have ZD := ξ (fun b hb => (jx.lt hJ b hb).1)
 have qH : ∀ S, qb S w ((w.alloc (.cells (cH had) 27)).alloc (.cells cZ 27)) := fun S => ((qb.refl S w).alloc _).alloc _
 have zl : ∀ S, qb S w (((w.alloc (.cells (cH had) 27)).alloc (.cells cZ 27)).alloc (.cells (nA 6 0 0 0 0 (q : Int) 0 m M 0) 57)) := fun S => (qH S).alloc _
 have iv2 := iv.keeps (qH _)
 have x0 := iv2.tr.c0
 have d := iv2.nodes.cell n _ hx
 have d_ := zB d
 have vO := ((qc w had).alloc (.cells cZ 27)).alloc (.cells (nA 6 0 0 0 0 (q : Int) 0 m M 0) 57)
 have JE : (((w.alloc (.cells (cH had) 27)).alloc (.cells cZ 27)).alloc (.cells (nA 6 0 0 0 0 (q : Int) 0 m M 0) 57)).heap.size = w.heap.size + 3 := by simp
 have k_ := qc.ten (w := (((w.alloc (.cells (cH had) 27)).alloc (.cells cZ 27)).alloc (.cells (nA 6 0 0 0 0 (q : Int) 0 m M 0) 57))) (b := w.heap.size) (had := had) vO
 have kH : qm (((w.alloc (.cells (cH had) 27)).alloc (.cells cZ 27)).alloc (.cells (nA 6 0 0 0 0 (q : Int) 0 m M 0) 57)) (w.heap.size + 1) 10 27 (fun _ => .complex .f64 0 0) := by
  have := qm.new (w.alloc (.cells (cH had) 27)) 10 27 (fun _ => .complex .f64 0 0)
  rw [World.size_alloc] at this
  exact ⟨heap_alloc _ this.heap⟩
 have Yk : zG (((w.alloc (.cells (cH had) 27)).alloc (.cells cZ 27)).alloc (.cells (nA 6 0 0 0 0 (q : Int) 0 m M 0) 57)) (w.heap.size + 2) (nA 6 0 0 0 0 (q : Int) 0 m M 0) 57 := by
  have := zG.new ((w.alloc (.cells (cH had) 27)).alloc (.cells cZ 27)) (nA 6 0 0 0 0 (q : Int) 0 m M 0) 57
  rw [World.size_alloc, World.size_alloc] at this
  exact this
 have vw : J (fun b => E b ∨ (w.heap.size ≤ b ∧ b < w.heap.size + 3)) es (((w.alloc (.cells (cH had) 27)).alloc (.cells cZ 27)).alloc (.cells (nA 6 0 0 0 0 (q : Int) 0 m M 0) 57)) := jx.mono (jx.keeps (jx.fresh hJ) (zl _)) (fun b hb => hb.imp id (fun e => e.1))
 have VB : ∀ b, (E b ∨ (w.heap.size ≤ b ∧ b < w.heap.size + 3)) → b < (((w.alloc (.cells (cH had) 27)).alloc (.cells cZ 27)).alloc (.cells (nA 6 0 0 0 0 (q : Int) 0 m M 0) 57)).heap.size := fun b hb => by
  rw [JE]
  rcases hb with hb | hb
  ·have := hE b hb; omega
  ·omega
 have kz : ∀ b, w.heap.size ≤ b → ¬ (Mt v b ∨ M2 b) := fun b hb e => by
  rcases e with e | e
  ·rcases e with e | e | e <;> omega
  ·have := ZD.out b e; omega
 have HX := ξ jx
 have HE := ξ hE
 have Qe := ξ qB
 have Zp := ξ zl
 have Zt := ξ (ζ vO (ζ kH Yk))
 have kM := ξ (ζ vw VB)
 have kD := ξ kz
 have qh := hRe had _ es _ qB vw VB
 obtain ⟨Z, hZ⟩ : ∃ Z, Z = (qd s (.times m M t)).walk p j had := ⟨_, rfl⟩
 rw [← hZ] at qh
 unfold qk at qh
 (try unfold Je at qh)
 have qp := ξ qh
 have HZ := ξ hZ
 clear qh hZ hx
 clear d qH zl iv iv2 vO kH Yk hJ vw hE VB qB kz jx JE
 unfold qk
 go_enter func101, ntmps101
 go_wp2_with fail
 refine qp.out.mono ?_
 rintro e w5 ⟨gs, rfl, vi, Kg, vH⟩
 have Vg : qm w5 (w.heap.size + 1) 10 27 (fun _ => .complex .f64 0 0) := ⟨(vH.block _ Zt.out.2.1.lt (kD.out _ (by omega))).trans Zt.out.2.1.heap⟩
 have qeH := (Zp.out _).trans vH
 have l5 : w.heap.size + 3 ≤ w5.heap.size := by have := vH.size; simp at this; omega
 clear vH
 have r_ := Vg.rf10
 have zI := ξ (kn (w := w5) (b := w.heap.size + 1) Z)
 have za := ξ (qV (w := w5) (b := w.heap.size + 1) Vg Z)
 clear Vg
 have qt := ξ (ζ vi (ζ Kg qeH))
 clear vi Kg qeH
 go_wp2
 refine bodyPost_ret (v := .agg (cH Z)) (by simp [results, results101, go_sem, za.out]) rfl ⟨gs, ?_, qt.out.1, HX.out.mono (HX.out.keeps qt.out.2.1 (zI.out.mono (fun i _ e => .inr (by subst e; omega)))) (fun b hb => .inl hb), qt.out.2.2.trans2 zI.out (fun i hi e => by omega)⟩
 show Ending.returned (qk Z) = _
 rw [HZ.out]
 rfl
theorem qeu (jx : JX X v s xs B c1 n1 P1 c2 n2 M2 J) (fx : Fx v s xs B P1) (n p j pa pb : Nat) (ta tb : T) (hn : n < v.n) (hp : p ≤ j) (hj : j ≤ s.length) (ht : zT (fun i => xs[i]?) (.two 5 ta tb) n) (hx : xs[n]? = some ⟨5, 0, 0, 0, 0, (pa : Int), (pb : Int), 0, 0, 0⟩) (la : pa < v.n) (lb : pb < v.n) (hsa : zT (fun i => xs[i]?) ta pa) (hsb : zT (fun i => xs[i]?) tb pb) (Uj : zz ta 0)
  (hA : jI X v s B M2 J pa ta p) (hLa : kX X v s M2 J pa ta p j) (hLb : kX X v s M2 J pb tb p j) : WalkC X v s M2 J n (.two 5 ta tb) p j := by
 intro had E es w qB hJ hE
 have jp := fx.sl
 have XJ := fx.n2
 have XF := fx.B1
 have iv := jx.iv hJ
 obtain ⟨lX, llb, lrb, lbn, lbr, lbl, lw⟩ := iv.lts
 have ZD := ξ (fun b hb => (jx.lt hJ b hb).1)
 have qH : ∀ S, qb S w ((w.alloc (.cells (cH had) 27)).alloc (.cells cZ 27)) := fun S => ((qb.refl S w).alloc _).alloc _
 have zl : ∀ S, qb S w (((w.alloc (.cells (cH had) 27)).alloc (.cells cZ 27)).alloc (.cells (nA 5 0 0 0 0 (pa : Int) (pb : Int) 0 0 0) 57)) := fun S => (qH S).alloc _
 have iv2 := iv.keeps (qH _)
 have x0 := iv2.tr.c0
 have d := iv2.nodes.cell n _ hx
 have d_ := zB d
 have vO := ((qc w had).alloc (.cells cZ 27)).alloc (.cells (nA 5 0 0 0 0 (pa : Int) (pb : Int) 0 0 0) 57)
 have JE : (((w.alloc (.cells (cH had) 27)).alloc (.cells cZ 27)).alloc (.cells (nA 5 0 0 0 0 (pa : Int) (pb : Int) 0 0 0) 57)).heap.size = w.heap.size + 3 := by simp
 have k_ := qc.ten (w := (((w.alloc (.cells (cH had) 27)).alloc (.cells cZ 27)).alloc (.cells (nA 5 0 0 0 0 (pa : Int) (pb : Int) 0 0 0) 57))) (b := w.heap.size) (had := had) vO
 have kH : qm (((w.alloc (.cells (cH had) 27)).alloc (.cells cZ 27)).alloc (.cells (nA 5 0 0 0 0 (pa : Int) (pb : Int) 0 0 0) 57)) (w.heap.size + 1) 10 27 (fun _ => .complex .f64 0 0) := by
  have := qm.new (w.alloc (.cells (cH had) 27)) 10 27 (fun _ => .complex .f64 0 0)
  rw [World.size_alloc] at this
  exact ⟨heap_alloc _ this.heap⟩
 have Yk : zG (((w.alloc (.cells (cH had) 27)).alloc (.cells cZ 27)).alloc (.cells (nA 5 0 0 0 0 (pa : Int) (pb : Int) 0 0 0) 57)) (w.heap.size + 2) (nA 5 0 0 0 0 (pa : Int) (pb : Int) 0 0 0) 57 := by
  have := zG.new ((w.alloc (.cells (cH had) 27)).alloc (.cells cZ 27)) (nA 5 0 0 0 0 (pa : Int) (pb : Int) 0 0 0) 57
  rw [World.size_alloc, World.size_alloc] at this
  exact this
 have vw : J (fun b => E b ∨ (w.heap.size ≤ b ∧ b < w.heap.size + 3)) es (((w.alloc (.cells (cH had) 27)).alloc (.cells cZ 27)).alloc (.cells (nA 5 0 0 0 0 (pa : Int) (pb : Int) 0 0 0) 57)) := jx.mono (jx.keeps (jx.fresh hJ) (zl _)) (fun b hb => hb.imp id (fun e => e.1))
 have VB : ∀ b, (E b ∨ (w.heap.size ≤ b ∧ b < w.heap.size + 3)) → b < (((w.alloc (.cells (cH had) 27)).alloc (.cells cZ 27)).alloc (.cells (nA 5 0 0 0 0 (pa : Int) (pb : Int) 0 0 0) 57)).heap.size := fun b hb => by
  rw [JE]
  rcases hb with hb | hb
  ·have := hE b hb; omega
  ·omega
 have kz : ∀ b, w.heap.size ≤ b → ¬ (Mt v b ∨ M2 b) := fun b hb e => by
  rcases e with e | e
  ·rcases e with e | e | e <;> omega
  ·have := ZD.out b e; omega
 have HX := ξ jx
 have HE := ξ hE
 have Qe := ξ qB
 have Zp := ξ zl
 have Zt := ξ (ζ vO (ζ kH Yk))
 have kM := ξ (ζ vw VB)
 have kD := ξ kz
 have qh := hA 0 had _ es _ (by omega) Uj qB vw VB
 unfold qk PV at qh
 have qp := ξ qh
 have HLA := ξ hLa
 have HLB := ξ hLb
 clear qh hx hA hLa hLb ht hsa hsb Uj
 clear d qH zl iv iv2 vO kH Yk hJ vw hE VB qB kz jx JE
 unfold qk
 go_enter func101, ntmps101
 go_wp2_with fail
 refine qp.out.mono ?_
 rintro e w4 ⟨b, fs, rfl, kI, hbE, qeq, JT, hbM, vA, KN, vn⟩
 have Qr := Zt.out.1.keeps vn (kD.out _ (by omega))
 have YE := Zt.out.2.2.keeps vn (kD.out _ (by omega))
 have VS : qm w4 (w.heap.size + 1) 10 27 (fun _ => .complex .f64 0 0) := ⟨(vn.block _ Zt.out.2.1.lt (kD.out _ (by omega))).trans Zt.out.2.1.heap⟩
 have m5 : w4.cell? ⟨w.heap.size + 2, 5, none⟩ = some (.int .i64 (pa : Int)) := YE.cell 5
 have m6 : w4.cell? ⟨w.heap.size + 2, 6, none⟩ = some (.int .i64 (pb : Int)) := YE.cell 6
 clear k_ qp
 have k_ := qc.ten (w := w4) (b := w.heap.size) (had := had) Qr
 have hE4 : ∀ b, (E b ∨ (w.heap.size ≤ b ∧ b < w.heap.size + 3)) → b < w4.heap.size := fun b hb => Nat.lt_of_lt_of_le (kM.out.2 b hb) vn.size
 have l4 : w.heap.size + 3 ≤ w4.heap.size := by have := vn.size; simp at this; omega
 have hk4b := (Zp.out _).trans vn
 have QQ := ξ (Ys b (s.length / 64 + 1) (s.length / 64 + 1) j _ (by omega) (by omega) w4 kI)
 have H4 := ξ (ζ Qr (ζ VS (ζ hE4 (ζ hk4b (ζ vA KN)))))
 clear Qr YE VS hE4 hk4b vn vA KN kI
 go_wp2_with fail
 refine QQ.out.mono ?_
 rintro e w5 ⟨rfl, rfl⟩
 clear QQ
 cases hq : (qd s ta).ends p 0 had j with
 | true =>
  obtain ⟨Z, hZ⟩ : ∃ Z, Z = (qd s ta).leave p j had := ⟨_, rfl⟩
  have qh := HLA.out had _ fs w5 Qe.out H4.out.2.2.2.2.2 H4.out.2.2.1
  rw [← hZ] at qh
  unfold qk at qh
  have qp := ξ qh
  have hw : (qd s (.two 5 ta tb)).walk p j had = Z := by
   show (if (qd s ta).ends p 0 had j = true then (qd s ta).leave p j had else (qd s tb).leave p j had) = Z
   rw [hq, hZ]; rfl
  have HZ := ξ hw
  clear qh hZ hw hq
  go_wp2_with fail
  refine qp.out.mono ?_
  rintro e w6 ⟨gs, rfl, yl, K2, Q9⟩
  have YA : qm w6 (w.heap.size + 1) 10 27 (fun _ => .complex .f64 0 0) := ⟨(Q9.block _ H4.out.2.1.lt (kD.out _ (by omega))).trans H4.out.2.1.heap⟩
  have qeI := H4.out.2.2.2.1.trans Q9
  have Vq := H4.out.2.2.2.2.1.trans yl
  have l6 : w.heap.size + 3 ≤ w6.heap.size := by have := Q9.size; omega
  clear Q9 yl m5 m6 k_
  have r_ := YA.rf10
  have zI := ξ (kn (w := w6) (b := w.heap.size + 1) Z)
  have za := ξ (qV (w := w6) (b := w.heap.size + 1) YA Z)
  clear YA
  have qt := ξ (ζ Vq (ζ K2 qeI))
  clear Vq K2 qeI
  go_wp2
  refine bodyPost_ret (v := .agg (cH Z)) (by simp [results, results101, go_sem, za.out]) rfl ⟨gs, ?_, qt.out.1, HX.out.mono (HX.out.keeps qt.out.2.1 (zI.out.mono (fun i _ e => .inr (by subst e; omega)))) (fun b hb => .inl hb), qt.out.2.2.trans2 zI.out (fun i hi e => by omega)⟩
  show Ending.returned (qk Z) = _
  rw [HZ.out]
  rfl
 | false =>
  obtain ⟨Z, hZ⟩ : ∃ Z, Z = (qd s tb).leave p j had := ⟨_, rfl⟩
  have qh := HLB.out had _ fs w5 Qe.out H4.out.2.2.2.2.2 H4.out.2.2.1
  rw [← hZ] at qh
  unfold qk at qh
  have qp := ξ qh
  have hw : (qd s (.two 5 ta tb)).walk p j had = Z := by
   show (if (qd s ta).ends p 0 had j = true then (qd s ta).leave p j had else (qd s tb).leave p j had) = Z
   rw [hq, hZ]; rfl
  have HZ := ξ hw
  clear qh hZ hw hq
  go_wp2_with fail
  refine qp.out.mono ?_
  rintro e w6 ⟨gs, rfl, yl, K2, Q9⟩
  have YA : qm w6 (w.heap.size + 1) 10 27 (fun _ => .complex .f64 0 0) := ⟨(Q9.block _ H4.out.2.1.lt (kD.out _ (by omega))).trans H4.out.2.1.heap⟩
  have qeI := H4.out.2.2.2.1.trans Q9
  have Vq := H4.out.2.2.2.2.1.trans yl
  have l6 : w.heap.size + 3 ≤ w6.heap.size := by have := Q9.size; omega
  clear Q9 yl m5 m6 k_
  have r_ := YA.rf10
  have zI := ξ (kn (w := w6) (b := w.heap.size + 1) Z)
  have za := ξ (qV (w := w6) (b := w.heap.size + 1) YA Z)
  clear YA
  have qt := ξ (ζ Vq (ζ K2 qeI))
  clear Vq K2 qeI
  go_wp2
  refine bodyPost_ret (v := .agg (cH Z)) (by simp [results, results101, go_sem, za.out]) rfl ⟨gs, ?_, qt.out.1, HX.out.mono (HX.out.keeps qt.out.2.1 (zI.out.mono (fun i _ e => .inr (by subst e; omega)))) (fun b hb => .inl hb), qt.out.2.2.trans2 zI.out (fun i hi e => by omega)⟩
  show Ending.returned (qk Z) = _
  rw [HZ.out]
  rfl
end
end Go.Proofs.YtjgegohidhdbpaaGreatDoor
