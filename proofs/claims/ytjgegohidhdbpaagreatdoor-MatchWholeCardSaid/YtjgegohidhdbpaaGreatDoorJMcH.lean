/- A trial: reach at a group, at alternatives. -/
import Derived.Test.YtjgegohidhdbpaaGreatDoorJMbN
import Derived.Test.YtjgegohidhdbpaaGreatDoorJMbT
open Go.Proofs.Tryz
set_option linter.unusedVariables false
set_option linter.unusedSimpArgs false
set_option maxRecDepth 100000
set_option maxHeartbeats 40000000
namespace Go.Proofs.YtjgegohidhdbpaaGreatDoor
open Go.RowKit Go.Maps Go.WideMaps
section
variable {X : Nat} {v : kU} {s : List UInt8} {xs : List Nd} {B : Nat} {c1 : Lit → Nat} {n1 : Nat} {P1 : Lit → Prop} {c2 : Lit → Nat} {n2 : Nat} {M2 : Nat → Prop} {J : (Nat → Prop) → List Lit → World → Prop}
theorem Ul (jx : JX X v s xs B c1 n1 P1 c2 n2 M2 J) (fx : Fx v s xs B P1) (n p pa : Nat) (N : Int) (t : T) (hn : n < v.n) (hp : p ≤ s.length) (hx : xs[n]? = some ⟨7, 0, 0, 0, 0, (pa : Int), 0, 0, 0, N⟩) (h0 : zz t 0) (hA : zA X v s B M2 J 113 pa t p) : zA X v s B M2 J 132 n (.group N t) p := by
 have XF := fx.B1
 intro c had E es w fb f JR kC qB hJ hE zJ qv
 have iv := jx.iv hJ
 have zO : ∀ S, qb S w (w.alloc (.cells (cH had) 27)) := fun S => (qb.refl S w).alloc _
 have iv1 := iv.keeps (zO _)
 have x0 := iv1.tr.c0
 have d := iv1.nodes.cell n _ hx
 have d_ := zB d
 have qH : ∀ S, qb S w ((w.alloc (.cells (cH had) 27)).alloc (.cells (nA 7 0 0 0 0 (pa : Int) 0 0 0 N) 57)) := fun S => (zO S).alloc _
 have jD := (qc w had).alloc (.cells (nA 7 0 0 0 0 (pa : Int) 0 0 0 N) 57)
 have zk := qv.keeps (qH (fun _ => False)) id
 have vV := jx.keeps hJ (qH _)
 have Qq : ∀ b, E b → b < ((w.alloc (.cells (cH had) 27)).alloc (.cells (nA 7 0 0 0 0 (pa : Int) 0 0 0 N) 57)).heap.size := fun b hb => by
  have := hE b hb
  have := (qH (fun _ => False)).size
  omega
 have x01 := (iv.keeps (qH _)).tr.c0
 have ZO : ¬ Mt v fb ∧ ¬ M2 fb := ⟨fun e => by
  obtain ⟨o1, o2, o3, o4, o5, o6, o7⟩ := iv.out
  rcases e with e | e | e
  ·subst e; exact o4 (.inl zJ)
  ·subst e; exact o5 (.inl zJ)
  ·subst e; exact o6 (.inl zJ), fun e => (jx.lt hJ fb e).2 _ _ qv⟩
 have k_ := qc.ten (w := ((w.alloc (.cells (cH had) 27)).alloc (.cells (nA 7 0 0 0 0 (pa : Int) 0 0 0 N) 57))) (b := w.heap.size) (had := had) jD
 have qh := hA 0 had E es _ fb f (by omega) h0 qB vV Qq zJ zk
 unfold PV qk at qh
 have qp := ξ qh
 have yg := ξ qH
 clear qh qH hA hx ZO
 clear d x01 zk vV Qq zO jD iv iv1 hJ hE qv qB kC jx
 unfold qk PV
 go_enter func132, ntmps132
 go_wp2_with fail
 refine qp.out.mono ?_
 rintro e w3 ⟨fs, rfl, jz, qJ, vw, zl⟩
 go_wp2
 first | go_end0 | refine bodyPost_ret (results_none rfl _ _ _) rfl ?_
 exact ⟨fs, rfl, jz, qJ, vw, (yg.out _).trans zl⟩
theorem qbK (jx : JX X v s xs B c1 n1 P1 c2 n2 M2 J) (fx : Fx v s xs B P1) (n p pa pb : Nat) (ta tb : T) (hn : n < v.n) (hp : p ≤ s.length) (hx : xs[n]? = some ⟨5, 0, 0, 0, 0, (pa : Int), (pb : Int), 0, 0, 0⟩) (Uj : zz ta 0) (Vw : zz tb 0) (hA : zA X v s B M2 J 113 pa ta p) (hB : zA X v s B M2 J 113 pb tb p) : zA X v s B M2 J 132 n (.two 5 ta tb) p := by
 have XF := fx.B1
 intro c had E es w fb f JR kC qB hJ hE zJ qv
 have iv := jx.iv hJ
 have zO : ∀ S, qb S w (w.alloc (.cells (cH had) 27)) := fun S => (qb.refl S w).alloc _
 have iv1 := iv.keeps (zO _)
 have x0 := iv1.tr.c0
 have d := iv1.nodes.cell n _ hx
 have d_ := zB d
 have qH : ∀ S, qb S w ((w.alloc (.cells (cH had) 27)).alloc (.cells (nA 5 0 0 0 0 (pa : Int) (pb : Int) 0 0 0) 57)) := fun S => (zO S).alloc _
 have jD := (qc w had).alloc (.cells (nA 5 0 0 0 0 (pa : Int) (pb : Int) 0 0 0) 57)
 have zk := qv.keeps (qH (fun _ => False)) id
 have vV := jx.keeps hJ (qH _)
 have Qq : ∀ b, E b → b < ((w.alloc (.cells (cH had) 27)).alloc (.cells (nA 5 0 0 0 0 (pa : Int) (pb : Int) 0 0 0) 57)).heap.size := fun b hb => by
  have := hE b hb
  have := (qH (fun _ => False)).size
  omega
 have x01 := (iv.keeps (qH _)).tr.c0
 have ZO : ¬ Mt v fb ∧ ¬ M2 fb := ⟨fun e => by
  obtain ⟨o1, o2, o3, o4, o5, o6, o7⟩ := iv.out
  rcases e with e | e | e
  ·subst e; exact o4 (.inl zJ)
  ·subst e; exact o5 (.inl zJ)
  ·subst e; exact o6 (.inl zJ), fun e => (jx.lt hJ fb e).2 _ _ qv⟩
 have k_ := qc.ten (w := ((w.alloc (.cells (cH had) 27)).alloc (.cells (nA 5 0 0 0 0 (pa : Int) (pb : Int) 0 0 0) 57))) (b := w.heap.size) (had := had) jD
 have qh := hA 0 had E es _ fb f (by omega) Uj qB vV Qq zJ zk
 unfold PV qk at qh
 have qp := ξ qh
 have yg := ξ qH
 have jk := ξ (ζ jD (ζ Qq (ζ qB ZO)))
 have HBB := ξ hB
 have lfb := qv.lt
 have lw := iv.lts
 have ZD := ξ (fun b hb => (jx.lt hJ b hb).1)
 have hn5 : zG ((w.alloc (.cells (cH had) 27)).alloc (.cells (nA 5 0 0 0 0 (pa : Int) (pb : Int) 0 0 0) 57)) (w.heap.size + 1) (nA 5 0 0 0 0 (pa : Int) (pb : Int) 0 0 0) 57 := by
  have := zG.new (w.alloc (.cells (cH had) 27)) (nA 5 0 0 0 0 (pa : Int) (pb : Int) 0 0 0) 57
  rw [World.size_alloc] at this
  exact this
 have HN5 := ξ hn5
 clear qh qH hA hB hx ZO hn5
 clear d x01 zk vV Qq zO jD iv iv1 hJ hE qv qB kC jx
 unfold qk PV
 go_enter func132, ntmps132
 go_wp2_with fail
 refine qp.out.mono ?_
 rintro e w3 ⟨fs, rfl, jz, qJ, vw, zl⟩
 have kz : ∀ b, w.heap.size ≤ b → ¬ ((Mt v b ∨ M2 b) ∨ b = fb) := fun b hb e => by
  rcases e with (e | e) | e
  ·rcases e with e | e | e <;> omega
  ·have := ZD.out b e; omega
  ·omega
 have vO := jk.out.1.keeps zl (kz _ (by omega))
 have n53 := HN5.out.keeps zl (kz _ (by omega))
 have m6 : w3.cell? ⟨w.heap.size + 1, 6, none⟩ = some (.int .i64 (pb : Int)) := n53.cell 6
 have kR := zl.size
 clear k_ qp
 have k_ := qc.ten (w := w3) (b := w.heap.size) (had := had) vO
 have qh := HBB.out 0 had E fs w3 fb _ (by omega) Vw jk.out.2.2.1 vw (fun b hb => Nat.lt_of_lt_of_le (jk.out.2.1 b hb) kR) zJ jz
 unfold PV qk at qh
 have qp := ξ qh
 have qt := ξ (ζ qJ zl)
 clear qh qJ zl jz vw vO n53
 go_wp2_with fail
 refine qp.out.mono ?_
 rintro e w4 ⟨gs, rfl, kI, vA, KN, vn⟩
 go_wp2
 first | go_end0 | refine bodyPost_ret (results_none rfl _ _ _) rfl ?_
 refine ⟨gs, rfl, ?_, qt.out.1.trans vA, KN, ((yg.out _).trans qt.out.2).trans vn⟩
 have e : (fun j => (f j || (qd s ta).ends p 0 had j) || (qd s tb).ends p 0 had j) = (fun j => f j || (qd s (.two 5 ta tb)).ends p c had j) := by
  funext j
  rw [Bool.or_assoc]
  rfl
 rw [← e]
 exact kI
end
section
variable {X : Nat} {v : kU} {s : List UInt8} {xs : List Nd} {B : Nat} {c1 : Lit → Nat} {n1 : Nat} {P1 : Lit → Prop} {c2 : Lit → Nat} {n2 : Nat} {M2 : Nat → Prop} {J : (Nat → Prop) → List Lit → World → Prop}
theorem qbL (jx : JX X v s xs B c1 n1 P1 c2 n2 M2 J) (fx : Fx v s xs B P1) (n p q : Nat) (m M : Int) (t : T) (y : Nd) (hn : n < v.n) (hp : p ≤ s.length) (ht : zT (fun i => xs[i]?) (.times m M t) n) (hx : xs[n]? = some ⟨6, 0, 0, 0, 0, (q : Int), 0, m, M, 0⟩) (hq : q < v.n) (hy : xs[q]? = some y) (hm : 0 ≤ m ∧ m ≤ 255) (K0 : t.isBytes = some y.set) : zA X v s B M2 J 132 n (.times m M t) p := by
 have hir : vN (.times m M t) = true := by simp [vN, K0]
 have hyf := fx.fits _ _ hy
 have jp := fx.sl
 have XJ := fx.n2
 intro c had E es w fb f JR kC qB hJ hE zJ qv
 have iv := jx.iv hJ
 have zO : ∀ S, qb S w (w.alloc (.cells (cH had) 27)) := fun S => (qb.refl S w).alloc _
 have iv1 := iv.keeps (zO _)
 have x0 := iv1.tr.c0
 have d := iv1.nodes.cell n _ hx
 have d_ := zB d
 have qH : ∀ S, qb S w ((w.alloc (.cells (cH had) 27)).alloc (.cells (nA 6 0 0 0 0 (q : Int) 0 m M 0) 57)) := fun S => (zO S).alloc _
 have jD := (qc w had).alloc (.cells (nA 6 0 0 0 0 (q : Int) 0 m M 0) 57)
 have zk := qv.keeps (qH (fun _ => False)) id
 have vV := jx.keeps hJ (qH _)
 have Qq : ∀ b, E b → b < ((w.alloc (.cells (cH had) 27)).alloc (.cells (nA 6 0 0 0 0 (q : Int) 0 m M 0) 57)).heap.size := fun b hb => by
  have := hE b hb
  have := (qH (fun _ => False)).size
  omega
 have x01 := (iv.keeps (qH _)).tr.c0
 have ZO : ¬ Mt v fb ∧ ¬ M2 fb := ⟨fun e => by
  obtain ⟨o1, o2, o3, o4, o5, o6, o7⟩ := iv.out
  rcases e with e | e | e
  ·subst e; exact o4 (.inl zJ)
  ·subst e; exact o5 (.inl zJ)
  ·subst e; exact o6 (.inl zJ), fun e => (jx.lt hJ fb e).2 _ _ qv⟩
 have k_ := qc.ten (w := ((w.alloc (.cells (cH had) 27)).alloc (.cells (nA 6 0 0 0 0 (q : Int) 0 m M 0) 57))) (b := w.heap.size) (had := had) jD
 have kO := Q8 X n v s xs (.times m M t) ht fx.len fx.n2 ((w.alloc (.cells (cH had) 27)).alloc (.cells (nA 6 0 0 0 0 (q : Int) 0 m M 0) 57)) (iv.keeps (qH _)).tr (iv.keeps (qH _)).nodes
 rw [hir] at kO
 have QI := ξ kO
 have yg := ξ qH
 have HIV := ξ iv
 have HJ := ξ hJ
 have HX := ξ jx
 have vP := ξ qv
 have HE := ξ hE
 have GE : X ≠ fb := fun e => iv.out.1 (.inl (e ▸ zJ))
 have hlb : v.lb ≠ fb := fun e => iv.out.2.1 (.inl (e ▸ zJ))
 have jk := ξ (ζ jD (ζ qB kC))
 have hn5 : zG ((w.alloc (.cells (cH had) 27)).alloc (.cells (nA 6 0 0 0 0 (q : Int) 0 m M 0) 57)) (w.heap.size + 1) (nA 6 0 0 0 0 (q : Int) 0 m M 0) 57 := by
  have := zG.new (w.alloc (.cells (cH had) 27)) (nA 6 0 0 0 0 (q : Int) 0 m M 0) 57
  rw [World.size_alloc] at this
  exact this
 have HN5 := ξ hn5
 clear kO qH hx ZO hn5
 clear d x01 zk vV Qq zO jD iv iv1 hJ hE qv qB kC jx
 unfold qk PV
 go_enter func132, ntmps132
 go_wp2_with fail
 refine QI.out.mono ?_
 rintro e w3 ⟨rfl, qQ⟩
 have zl : ∀ S, qb S w w3 := fun S => (yg.out S).trans (qb.of_below qQ)
 have n53 := HN5.out.below qQ HN5.out.lt
 have vO := jk.out.1.below qQ jk.out.1.lt
 clear k_ QI
 obtain ⟨m0, m1, m2, m3, m4, m5, m6, m7, m8, m9⟩ := j9 n53
 have qh := qmm X p fb (s.length / 64 + 1) q v s xs ⟨6, 0, 0, 0, 0, (q : Int), 0, m, M, 0⟩ y rfl hq XJ hy hyf hm hp (by omega) rfl f w3 (HIV.out.keeps (zl _)).tr (HIV.out.keeps (zl _)).nodes (vP.out.keeps (zl (fun _ => False)) id) GE hlb
 unfold Je at qh
 have qp := ξ qh
 have Zp := ξ zl
 clear qh zl vO n53 qQ hm
 go_wp2_with fail
 refine qp.out.mono ?_
 rintro e w4 ⟨rfl, kI, vn⟩
 go_wp2
 first | go_end0 | refine bodyPost_ret (results_none rfl _ _ _) rfl ?_
 refine ⟨es, rfl, ?_, List.prefix_refl _, HX.out.keeps (HX.out.keeps HJ.out (Zp.out _)) (vn.mono (fun i _ e => e ▸ zJ)), (Zp.out _).trans (vn.mono (fun i _ e => .inr e))⟩
 have e : (fun i => f i || kg s y.set m M (s.length - p) p 0 i) = (fun j => f j || (qd s (.times m M t)).ends p c had j) := by
  funext j
  simp only [qd, jR, K0]
 rw [← e]
 exact kI
theorem qbI (jx : JX X v s xs B c1 n1 P1 c2 n2 M2 J) (fx : Fx v s xs B P1) (n p q : Nat) (m M : Int) (t : T) (hn : n < v.n) (hp : p ≤ s.length) (ht : zT (fun i => xs[i]?) (.times m M t) n) (hx : xs[n]? = some ⟨6, 0, 0, 0, 0, (q : Int), 0, m, M, 0⟩) (K0 : t.isBytes = none) (hG : zA X v s B M2 J 147 n (.times m M t) p) : zA X v s B M2 J 132 n (.times m M t) p := by
 have hir : vN (.times m M t) = false := by simp [vN, K0]
 have HG := ξ hG
 clear hG
 intro c had E es w fb f JR kC qB hJ hE zJ qv
 have iv := jx.iv hJ
 have zO : ∀ S, qb S w (w.alloc (.cells (cH had) 27)) := fun S => (qb.refl S w).alloc _
 have iv1 := iv.keeps (zO _)
 have x0 := iv1.tr.c0
 have d := iv1.nodes.cell n _ hx
 have d_ := zB d
 have qH : ∀ S, qb S w ((w.alloc (.cells (cH had) 27)).alloc (.cells (nA 6 0 0 0 0 (q : Int) 0 m M 0) 57)) := fun S => (zO S).alloc _
 have jD := (qc w had).alloc (.cells (nA 6 0 0 0 0 (q : Int) 0 m M 0) 57)
 have zk := qv.keeps (qH (fun _ => False)) id
 have vV := jx.keeps hJ (qH _)
 have Qq : ∀ b, E b → b < ((w.alloc (.cells (cH had) 27)).alloc (.cells (nA 6 0 0 0 0 (q : Int) 0 m M 0) 57)).heap.size := fun b hb => by
  have := hE b hb
  have := (qH (fun _ => False)).size
  omega
 have x01 := (iv.keeps (qH _)).tr.c0
 have ZO : ¬ Mt v fb ∧ ¬ M2 fb := ⟨fun e => by
  obtain ⟨o1, o2, o3, o4, o5, o6, o7⟩ := iv.out
  rcases e with e | e | e
  ·subst e; exact o4 (.inl zJ)
  ·subst e; exact o5 (.inl zJ)
  ·subst e; exact o6 (.inl zJ), fun e => (jx.lt hJ fb e).2 _ _ qv⟩
 have k_ := qc.ten (w := ((w.alloc (.cells (cH had) 27)).alloc (.cells (nA 6 0 0 0 0 (q : Int) 0 m M 0) 57))) (b := w.heap.size) (had := had) jD
 have kO := Q8 X n v s xs (.times m M t) ht fx.len fx.n2 ((w.alloc (.cells (cH had) 27)).alloc (.cells (nA 6 0 0 0 0 (q : Int) 0 m M 0) 57)) (iv.keeps (qH _)).tr (iv.keeps (qH _)).nodes
 rw [hir] at kO
 have QI := ξ kO
 have yg := ξ qH
 have HIV := ξ iv
 have HJ := ξ hJ
 have HX := ξ jx
 have vP := ξ qv
 have HE := ξ hE
 have GE : X ≠ fb := fun e => iv.out.1 (.inl (e ▸ zJ))
 have hlb : v.lb ≠ fb := fun e => iv.out.2.1 (.inl (e ▸ zJ))
 have jk := ξ (ζ jD (ζ qB kC))
 have hn5 : zG ((w.alloc (.cells (cH had) 27)).alloc (.cells (nA 6 0 0 0 0 (q : Int) 0 m M 0) 57)) (w.heap.size + 1) (nA 6 0 0 0 0 (q : Int) 0 m M 0) 57 := by
  have := zG.new (w.alloc (.cells (cH had) 27)) (nA 6 0 0 0 0 (q : Int) 0 m M 0) 57
  rw [World.size_alloc] at this
  exact this
 have HN5 := ξ hn5
 clear kO qH hx ZO hn5
 clear d x01 zk vV Qq zO jD iv iv1 hJ hE qv qB kC jx
 unfold qk PV
 go_enter func132, ntmps132
 go_wp2_with fail
 refine QI.out.mono ?_
 rintro e w3 ⟨rfl, qQ⟩
 have zl : ∀ S, qb S w w3 := fun S => (yg.out S).trans (qb.of_below qQ)
 have n53 := HN5.out.below qQ HN5.out.lt
 have vO := jk.out.1.below qQ jk.out.1.lt
 clear k_ QI
 have k_ := qc.ten (w := w3) (b := w.heap.size) (had := had) vO
 have kR := (zl (fun _ => False)).size
 have qh := HG.out c had E es w3 fb f JR jk.out.2.2 jk.out.2.1 (HX.out.keeps HJ.out (zl _)) (fun b hb => Nat.lt_of_lt_of_le (HE.out b hb) kR) zJ (vP.out.keeps (zl (fun _ => False)) id)
 unfold PV qk at qh
 have qp := ξ qh
 have Zp := ξ zl
 clear qh zl vO n53 qQ
 go_wp2_with fail
 refine qp.out.mono ?_
 rintro e w4 ⟨fs, rfl, kI, qJ, KN, vn⟩
 go_wp2
 first | go_end0 | refine bodyPost_ret (results_none rfl _ _ _) rfl ?_
 exact ⟨fs, rfl, kI, qJ, KN, (Zp.out _).trans vn⟩
end
theorem Km {k0 k n : Nat} {F : Nat → Bool} (h0 : k0 ≤ k) (hk : k ≤ n) (h : ∀ i, k0 ≤ i → i < k → F i = false) : zZ k0 n F = (F k || zZ (k + 1) n F) := by
 rw [Bool.eq_iff_iff, Bool.or_eq_true, qF, qF]
 constructor
 ·rintro ⟨i, a, b, c⟩
  rcases Nat.lt_trichotomy i k with e | e | e
  ·rw [h i a e] at c; cases c
  ·subst e; exact .inl c
  ·exact .inr ⟨i, e, b, c⟩
 ·rintro (c | ⟨i, a, b, c⟩)
  ·exact ⟨k, h0, hk, c⟩
  ·exact ⟨i, by omega, b, c⟩
def msr (n : Nat) (r : Int) : Nat := if r < 0 then 0 else n + 1 - r.toNat
theorem Vl {n k : Nat} {r : Int} (hk : k ≤ n) (h : r = -1 ∨ (k : Int) + 1 ≤ r) : msr n r < msr n (k : Int) := by
 unfold msr
 rw [if_neg (show ¬ (k : Int) < 0 by omega)]
 split <;> omega
theorem Kl {k0 n : Nat} {F : Nat → Bool} (h : ∀ i, k0 ≤ i → F i = false) : zZ k0 n F = false := by
 rw [Bool.eq_false_iff]
 intro e
 obtain ⟨i, a, b, c⟩ := qF.1 e
 rw [h i a] at c; cases c
section
variable {X : Nat} {v : kU} {s : List UInt8} {xs : List Nd} {B : Nat} {c1 : Lit → Nat} {n1 : Nat} {P1 : Lit → Prop} {c2 : Lit → Nat} {n2 : Nat} {M2 : Nat → Prop} {J : (Nat → Prop) → List Lit → World → Prop}
theorem qbJ (jx : JX X v s xs B c1 n1 P1 c2 n2 M2 J) (fx : Fx v s xs B P1) (n p pa pb : Nat) (ta tb : T) (hn : n < v.n) (hp : p ≤ s.length) (hx : xs[n]? = some ⟨4, 0, 0, 0, 0, (pa : Int), (pb : Int), 0, 0, 0⟩) (Uj : zz ta 0) (Vw : zz tb 0) (hSA : vt s.length (qd s ta))
  (hA : jI X v s B M2 J pa ta p) (hG : ∀ k, p ≤ k → k ≤ s.length → GoC X v s B M2 J pb tb k)
  (Gu : ∀ (had : Cp) (E : Nat → Prop) (es : List Lit) (w : World), qo s.length had → J E es w → (∀ b, E b → b < w.heap.size) → Calls prog 142 #[.pointer (some ⟨X, 0, none⟩), .int .i64 pa, .int .i64 pb, .int .i64 p, qk had] w fun e w' => ∃ (K : FuncId) (cap : Array Value), e = .returned (.func (.func K) #[] cap) ∧ (∀ S, qb S w w') ∧ ∀ k, p ≤ k → k ≤ s.length → QK v M2 J K cap k (qW (qd s ta) (qd s tb).asked p had k) E es w') : zA X v s B M2 J 132 n (.two 4 ta tb) p := by
 have XF := fx.B1
 have jp := fx.sl
 intro c had E es w fb f JR kC qB hJ hE zJ qv
 have iv := jx.iv hJ
 have zO : ∀ S, qb S w (w.alloc (.cells (cH had) 27)) := fun S => (qb.refl S w).alloc _
 have iv1 := iv.keeps (zO _)
 have x0 := iv1.tr.c0
 have d := iv1.nodes.cell n _ hx
 have d_ := zB d
 have qH : ∀ S, qb S w ((w.alloc (.cells (cH had) 27)).alloc (.cells (nA 4 0 0 0 0 (pa : Int) (pb : Int) 0 0 0) 57)) := fun S => (zO S).alloc _
 have jD := (qc w had).alloc (.cells (nA 4 0 0 0 0 (pa : Int) (pb : Int) 0 0 0) 57)
 have zk := qv.keeps (qH (fun _ => False)) id
 have vV := jx.keeps hJ (qH _)
 have Qq : ∀ b, E b → b < ((w.alloc (.cells (cH had) 27)).alloc (.cells (nA 4 0 0 0 0 (pa : Int) (pb : Int) 0 0 0) 57)).heap.size := fun b hb => by
  have := hE b hb
  have := (qH (fun _ => False)).size
  omega
 have x01 := (iv.keeps (qH _)).tr.c0
 have ZO : ¬ Mt v fb ∧ ¬ M2 fb := ⟨fun e => by
  obtain ⟨o1, o2, o3, o4, o5, o6, o7⟩ := iv.out
  rcases e with e | e | e
  ·subst e; exact o4 (.inl zJ)
  ·subst e; exact o5 (.inl zJ)
  ·subst e; exact o6 (.inl zJ), fun e => (jx.lt hJ fb e).2 _ _ qv⟩
 obtain ⟨k0, k1, k2, k3, k4, k5, k6, k7, k8, k9⟩ := qc.ten (w := ((w.alloc (.cells (cH had) 27)).alloc (.cells (nA 4 0 0 0 0 (pa : Int) (pb : Int) 0 0 0) 57))) (b := w.heap.size) (had := had) jD
 have qh := Gu had E es _ qB vV Qq
 unfold qk at qh
 have qp := ξ qh
 have yg := ξ qH
 have jk := ξ (ζ jD (ζ Qq (ζ qB ZO)))
 have vP := ξ qv
 have HG := ξ hG
 have HA := ξ hA
 have HX := ξ jx
 have ZA := ξ vV
 have YD := ξ hSA
 have lfb := qv.lt
 have lw := iv.lts
 have ZD := ξ (fun b hb => (jx.lt hJ b hb).1)
 have YE : zG ((w.alloc (.cells (cH had) 27)).alloc (.cells (nA 4 0 0 0 0 (pa : Int) (pb : Int) 0 0 0) 57)) (w.heap.size + 1) (nA 4 0 0 0 0 (pa : Int) (pb : Int) 0 0 0) 57 := by
  have := zG.new (w.alloc (.cells (cH had) 27)) (nA 4 0 0 0 0 (pa : Int) (pb : Int) 0 0 0) 57
  rw [World.size_alloc] at this
  exact this
 have HN4 := ξ YE
 clear qh qH hA hG Gu hx ZO YE hSA
 clear d x01 zk vV Qq zO jD iv iv1 hJ hE qv qB kC jx
 unfold qk PV
 go_enter func132, ntmps132
 go_wp2_with fail
 refine qp.out.mono ?_
 rintro e w3 ⟨K, cap, rfl, zl, Un⟩
 have vO := jk.out.1.keeps (zl (fun _ => False)) id
 have n43 := HN4.out.keeps (zl (fun _ => False)) id
 have hsz3 := (zl (fun _ => False)).size
 have m5 : w3.cell? ⟨w.heap.size + 1, 5, none⟩ = some (.int .i64 (pa : Int)) := n43.cell 5
 clear k0 k1 k2 k3 k4 k5 k6 k7 k8 k9 qp
 obtain ⟨k0, k1, k2, k3, k4, k5, k6, k7, k8, k9⟩ := qc.ten (w := w3) (b := w.heap.size) (had := had) vO
 have qh := HA.out 0 had E es w3 (by omega) Uj jk.out.2.2.1 (HX.out.keeps ZA.out (zl _)) (fun b hb => Nat.lt_of_lt_of_le (jk.out.2.1 b hb) hsz3)
 unfold PV qk at qh
 have qp := ξ qh
 have Zp := ξ zl
 have HLC := ξ Un
 have HN43 := ξ n43
 clear qh zl Un vO n43
 go_wp2_with fail
 refine qp.out.mono ?_
 rintro e w4 ⟨b, fs, rfl, kI, hbE, qeq, JT, hbM, vA, KN, vn⟩
 have hff : ∀ i, 64 * (s.length / 64 + 1) ≤ i → (qd s ta).ends p 0 had i = false := fun i hi => by
  rw [Bool.eq_false_iff]
  intro e
  have := (YD.out.le p 0 had i jk.out.2.2.1 hp e).2
  omega
 have HFF := ξ hff
 have qeN := fun (q : Nat) (hq : q ≤ 1000000000) (W : World) (hT : TabAt 0 Lib.deBruijn64tab W) (h : qI W b (s.length / 64 + 1) (fun j => (qd s ta).ends p 0 had j)) => Xs b (s.length / 64 + 1) (s.length / 64 + 1) q _ (by omega) hq HFF.out W hT h
 have HFR := ξ qeN
 have QS := ξ (qeN p (by omega) w4 (HX.out.iv KN).tab kI)
 have jW := ξ (ζ kI (ζ KN (ζ vn (ζ vA hbE))))
 have Uo := ξ (ζ JT hbM)
 have qeO : qI w4 fb (s.length / 64 + 1) f := (vP.out.keeps ((yg.out (fun _ => False)).trans (Zp.out _)) id).keeps vn (fun e => e.elim jk.out.2.2.2.1 jk.out.2.2.2.2)
 have HRF := ξ qeO
 clear k0 k1 k2 k3 k4 k5 k6 k7 k8 k9 qp m5 hff qeN kI KN vn vA qeO
 go_wp2_with fail
 refine QS.out.mono ?_
 rintro e w5 ⟨⟨r, rfl, hr⟩, hw⟩
 subst hw
 have HR := ξ hr
 clear hr QS
 go_wp2
 go_loopw [15] (fun kv wr => ∃ (r : Int) (k0 : Nat) (gs : List Lit) (g : Nat → Bool), kv = .int .i64 r ∧ p ≤ k0 ∧ yL (fun j => (qd s ta).ends p 0 had j) k0 r ∧ fs <+: gs ∧ J E gs wr ∧ qI wr fb (s.length / 64 + 1) g ∧ (∀ j, (g j || zZ k0 s.length (kf (qd s ta) (qd s tb) p j had)) = (f j || zZ p s.length (kf (qd s ta) (qd s tb) p j had))) ∧ qb (fun b => (Mt v b ∨ M2 b) ∨ b = fb) w5 wr) (fun kv _ => msr s.length (RowKit.intOf kv))
 case atStart => exact ⟨r, p, fs, f, rfl, Nat.le_refl _, HR.out, List.prefix_refl _, jW.out.2.1, HRF.out, fun j => rfl, qb.refl _ _⟩
 case round =>
  obtain ⟨r2, k0, gs, g, rfl, Vu, Qo, qJ, QW, qv, hg, hK⟩ := hrel
  rcases Qo with ⟨rfl, kz⟩ | ⟨k, rfl, zO, qH, zl⟩
  ·have qt := ξ (ζ qJ (ζ QW (ζ qv hK)))
   have Zk := ξ (ζ hg kz)
   clear qJ QW qv hK hg kz
   go_wp2
   first | go_end0 | refine bodyPost_ret (results_none rfl _ _ _) rfl ?_
   first
   | refine ⟨gs, rfl, ?_, jW.out.2.2.2.1.trans qt.out.1, qt.out.2.1, ((((yg.out _).trans (Zp.out _)).trans (jW.out.2.2.1.mono (fun i _ e => .inl e)))).trans qt.out.2.2.2⟩
   | refine ⟨rfl, ?_, gs, jW.out.2.2.2.1.trans qt.out.1, qt.out.2.1, ((((yg.out _).trans (Zp.out _)).trans (jW.out.2.2.1.mono (fun i _ e => .inl e)))).trans qt.out.2.2.2⟩
   have e : g = (fun j => f j || (qd s (.two 4 ta tb)).ends p c had j) := by
    funext j
    have h1 := Zk.out.1 j
    rw [Kl (k0 := k0) (fun i hi => by unfold kf; rw [Zk.out.2 i hi]; rfl), Bool.or_false] at h1
    rw [h1]
    rfl
   rw [← e]
   exact qt.out.2.2.1
  ·have jl := (YD.out.le p 0 had k jk.out.2.2.1 hp qH).2
   have kR := hK.size
   have hsz4 := jW.out.2.2.1.size
   have hsz3 := (Zp.out (fun _ => False)).size
   have kz : ∀ i, w.heap.size ≤ i → ¬ ((Mt v i ∨ M2 i) ∨ i = fb) := fun i hi e => by
    rcases e with (e | e) | e
    ·rcases e with e | e | e <;> omega
    ·have := ZD.out i e; omega
    ·omega
   have n4 := (HN43.out.keeps jW.out.2.2.1 (fun e => kz _ (by omega) (.inl e))).keeps hK (kz _ (by omega))
   have m6 : wr.cell? ⟨w.heap.size + 1, 6, none⟩ = some (.int .i64 (pb : Int)) := n4.cell 6
   have qh := HG.out k (by omega) jl 0 (qW (qd s ta) (qd s tb).asked p had k) E gs wr fb g K cap (by omega) Vw (YD.out.left_cap jk.out.2.2.1 (by omega) jl) QW (fun b hb => by
    have := jk.out.2.1 b hb
    omega) zJ qv ((HLC.out k (by omega) jl).mono (jW.out.2.2.2.1.trans qJ) ((jW.out.2.2.1.mono (fun i _ e => .inl e)).trans (hK.mono (fun i _ e => e.elim .inl (fun q => .inr (by subst q; exact zJ))))))
   unfold PV at qh
   have qp := ξ qh
   have qt := ξ (ζ qJ hK)
   have Zk := ξ (ζ hg (ζ qH zl))
   clear qh qJ hK hg QW qv kz n4 qH zl
   go_wp2_with fail
   refine qp.out.mono ?_
   rintro e w6 ⟨hs, rfl, WI, yl, K2, Q9⟩
   have hbr : qI w6 b (s.length / 64 + 1) (fun j => (qd s ta).ends p 0 had j) := (jW.out.1.keeps qt.out.2 (fun e => by
    rcases e with (e | e) | e
    ·exact Uo.out.2 e
    ·exact Uo.out.1 e
    ·exact jW.out.2.2.2.2 (e ▸ zJ))).keeps Q9 (fun e => by
    rcases e with (e | e) | e
    ·exact Uo.out.2 e
    ·exact Uo.out.1 e
    ·exact jW.out.2.2.2.2 (e ▸ zJ))
   have VG := HFR.out (k + 1) (by omega) w6 (HX.out.iv K2).tab hbr
   rw [show ((k + 1 : Nat) : Int) = (k : Int) + 1 from by omega] at VG
   have Vr := ξ VG
   have qE := ξ (ζ WI (ζ yl (ζ K2 Q9)))
   clear VG hbr WI yl K2 Q9 m6 qp
   go_wp2_with fail
   refine Vr.out.mono ?_
   rintro e w7 ⟨⟨r3, rfl, kH⟩, hw⟩
   subst hw
   have VS : r3 = -1 ∨ (k : Int) + 1 ≤ r3 := by
    rcases kH with ⟨e, _⟩ | ⟨k', e, h, _⟩
    ·exact .inl e
    ·exact .inr (by omega)
   have HR3 := ξ kH
   clear kH Vr
   go_wp2
   go_roundw
   case rel =>
    refine ⟨r3, k + 1, hs, _, rfl, by omega, HR3.out, qt.out.1.trans qE.out.2.1, qE.out.2.2.1, qE.out.1, fun j => ?_, qt.out.2.trans qE.out.2.2.2⟩
    rw [← Zk.out.1 j, Km zO jl (fun i h1 h2 => by unfold kf; rw [Zk.out.2.2 i h1 h2]; rfl), Bool.or_assoc]
    congr 2
    unfold kf
    rw [Zk.out.2.1, Bool.true_and]
   case measure => exact Vl jl VS
end
section
variable {X : Nat} {v : kU} {s : List UInt8} {xs : List Nd} {B : Nat} {c1 : Lit → Nat} {n1 : Nat} {P1 : Lit → Prop} {c2 : Lit → Nat} {n2 : Nat} {M2 : Nat → Prop} {J : (Nat → Prop) → List Lit → World → Prop}
theorem Gw (jx : JX X v s xs B c1 n1 P1 c2 n2 M2 J) (fx : Fx v s xs B P1) (n p : Nat) (x : Nd) (hn : n < v.n) (hp : p ≤ s.length) (ht : zT (fun i => xs[i]?) (.leaf x) n) (hx : xs[n]? = some x) (ks : x.kind = 0 ∨ x.kind = 1 ∨ x.kind = 2 ∨ x.kind = 3 ∨ x.kind = 8)
  (hlf : ∀ (had : Cp) (w : World), qo s.length had → km w X v s → Calls prog 149 #[.pointer (some ⟨X, 0, none⟩), Je x, .int .i64 p, qk had] w (Qd (zE s x p had) w)) : zA X v s B M2 J 132 n (.leaf x) p := by
 have jp := fx.sl
 have hSO := (fx.ok n _ hn ht).2.1
 have HSO := ξ hSO
 have HEN := ξ (fun (c : Nat) (had : Cp) j => (show (qd s (.leaf x)).ends p c had j = (match zE s x p had with | some w => decide (j = p + w) | none => false) from by
  show (if x.kind = -1 then _ else _) = _
  rw [if_neg (by omega)]
  cases zE s x p had <;> rfl))
 obtain ⟨LE, hLE⟩ : ∃ LE : Cp → Option Nat, LE = fun had => zE s x p had := ⟨_, rfl⟩
 have HLF : Hid (∀ (had : Cp) (w : World), qo s.length had → km w X v s → Calls prog 149 #[.pointer (some ⟨X, 0, none⟩), Je x, .int .i64 p, qk had] w (Qd (LE had) w)) := by rw [hLE]; exact ξ hlf
 have qgS : Hid (∀ (c : Nat) (had : Cp) j, (qd s (.leaf x)).ends p c had j = (match LE had with | some w => decide (j = p + w) | none => false)) := by rw [hLE]; exact HEN
 clear hLE HEN hlf hSO
 obtain ⟨TT, hTT⟩ : ∃ TT : T, TT = .leaf x := ⟨_, rfl⟩
 rw [← hTT] at qgS HSO ⊢
 clear hTT ht
 obtain ⟨kd, u0, u1, u2, u3, xa, xb, m, M, xn⟩ := x
 simp only at ks
 have z7 : (kd == 7) = false := by rw [beq_eq_false_iff_ne]; omega
 have z5 : (kd == 5) = false := by rw [beq_eq_false_iff_ne]; omega
 have z4 : (kd == 4) = false := by rw [beq_eq_false_iff_ne]; omega
 have z6 : (kd == 6) = false := by rw [beq_eq_false_iff_ne]; omega
 have z1 : (kd == -1) = false := by rw [beq_eq_false_iff_ne]; omega
 intro c had E es w fb f JR kC qB hJ hE zJ qv
 have iv := jx.iv hJ
 have zO : ∀ S, qb S w (w.alloc (.cells (cH had) 27)) := fun S => (qb.refl S w).alloc _
 have iv1 := iv.keeps (zO _)
 have x0 := iv1.tr.c0
 have d := iv1.nodes.cell n _ hx
 have d_ := zB d
 have qH : ∀ S, qb S w ((w.alloc (.cells (cH had) 27)).alloc (.cells (nA kd u0 u1 u2 u3 xa xb m M xn) 57)) := fun S => (zO S).alloc _
 have jD := (qc w had).alloc (.cells (nA kd u0 u1 u2 u3 xa xb m M xn) 57)
 have zk := qv.keeps (qH (fun _ => False)) id
 have vV := jx.keeps hJ (qH _)
 have Qq : ∀ b, E b → b < ((w.alloc (.cells (cH had) 27)).alloc (.cells (nA kd u0 u1 u2 u3 xa xb m M xn) 57)).heap.size := fun b hb => by
  have := hE b hb
  have := (qH (fun _ => False)).size
  omega
 have x01 := (iv.keeps (qH _)).tr.c0
 have ZO : ¬ Mt v fb ∧ ¬ M2 fb := ⟨fun e => by
  obtain ⟨o1, o2, o3, o4, o5, o6, o7⟩ := iv.out
  rcases e with e | e | e
  ·subst e; exact o4 (.inl zJ)
  ·subst e; exact o5 (.inl zJ)
  ·subst e; exact o6 (.inl zJ), fun e => (jx.lt hJ fb e).2 _ _ qv⟩
 have k_ := qc.ten (w := ((w.alloc (.cells (cH had) 27)).alloc (.cells (nA kd u0 u1 u2 u3 xa xb m M xn) 57))) (b := w.heap.size) (had := had) jD
 have qh := HLF.out had ((w.alloc (.cells (cH had) 27)).alloc (.cells (nA kd u0 u1 u2 u3 xa xb m M xn) 57)) qB (iv.keeps (qH _)).tr
 unfold Je qk at qh
 have qp := ξ qh
 have yg := ξ qH
 have YE : zG ((w.alloc (.cells (cH had) 27)).alloc (.cells (nA kd u0 u1 u2 u3 xa xb m M xn) 57)) (w.heap.size + 1) (nA kd u0 u1 u2 u3 xa xb m M xn) 57 := by
  have := zG.new (w.alloc (.cells (cH had) 27)) (nA kd u0 u1 u2 u3 xa xb m M xn) 57
  rw [World.size_alloc] at this
  exact this
 obtain ⟨m0, m1, m2, m3, m4, m5, m6, m7, m8, m9⟩ := j9 YE
 have HX := ξ jx
 have HJ := ξ hJ
 have Yc := ξ zk
 have Qe := ξ qB
 clear qh qH hx ZO YE HLF ks
 clear d x01 zk vV Qq zO jD iv iv1 hJ hE qv qB kC jx
 unfold qk PV
 go_enter func132, ntmps132
 go_wp2_with fail
 refine qp.out.mono ?_
 rintro e w3 ⟨⟨z, rfl, hz⟩, qQ⟩
 have jz := Yc.out.below qQ Yc.out.lt
 have zl : ∀ S, qb S w w3 := fun S => (yg.out S).trans (qb.of_below qQ)
 have HZ := ξ hz
 have Zp := ξ zl
 clear qp hz zl qQ m0 m1 m2 m3 m4 m5 m6 m7 m8 m9 k_
 cases hLo : LE had with
 | none =>
  have qmo := ξ jz
  clear jz
  go_wp2
  first | go_end0 | refine bodyPost_ret (results_none rfl _ _ _) rfl ?_
  first
  | refine ⟨es, rfl, ?_, List.prefix_refl _, HX.out.keeps HJ.out (Zp.out _), Zp.out _⟩
  | refine ⟨rfl, ?_, es, List.prefix_refl _, HX.out.keeps HJ.out (Zp.out _), Zp.out _⟩
  have e : f = (fun j => f j || (qd s TT).ends p c had j) := by
   funext j
   rw [qgS.out, hLo, Bool.or_false]
  rw [← e]
  exact qmo.out
 | some k =>
  obtain rfl := HZ.out k hLo
  have ZM := (HSO.out.le p c had (p + k) Qe.out hp (by rw [qgS.out, hLo]; simp)).2
  have kW := WX fb (s.length / 64 + 1) (s.length / 64 + 1) (p + k) f (by omega) (by omega) w3 jz
  rw [show ((p + k : Nat) : Int) = (p : Int) + (k : Int) from by omega] at kW
  have Kk := ξ kW
  have qmp := ξ ((jz.put (p + k)).drew)
  clear kW jz
  go_wp2_with fail
  refine Kk.out.mono ?_
  rintro e w4 ⟨rfl, hw4⟩
  have jW := ξ hw4
  clear hw4
  go_wp2
  first | go_end0 | refine bodyPost_ret (results_none rfl _ _ _) rfl ?_
  have hK4 : qb (fun b => b = fb) w3 w4 := by rw [jW.out]; exact Zd w3 fb _ _
  first
  | refine ⟨es, rfl, ?_, List.prefix_refl _, HX.out.keeps (HX.out.keeps HJ.out (Zp.out _)) (hK4.mono (fun i _ e => e ▸ zJ)), (Zp.out _).trans (hK4.mono (fun i _ e => .inr e))⟩
  | refine ⟨rfl, ?_, es, List.prefix_refl _, HX.out.keeps (HX.out.keeps HJ.out (Zp.out _)) (hK4.mono (fun i _ e => e ▸ zJ)), (Zp.out _).trans (hK4.mono (fun i _ e => .inr e))⟩
  have e : (fun i => f i || i == p + k) = (fun j => f j || (qd s TT).ends p c had j) := by
   funext j
   rw [qgS.out, hLo]
   rfl
  rw [← e, jW.out]
  exact qmp.out
end
end Go.Proofs.YtjgegohidhdbpaaGreatDoor
