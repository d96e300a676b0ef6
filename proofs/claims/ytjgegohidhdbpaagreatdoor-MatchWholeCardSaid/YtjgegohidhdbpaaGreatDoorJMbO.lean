/- A trial: reach at anything. -/
import Derived.Test.YtjgegohidhdbpaaGreatDoorJMcH
import Derived.Test.YtjgegohidhdbpaaGreatDoorJSpanD
open Go.Proofs.Tryz
set_option linter.unusedVariables false
set_option linter.unusedSimpArgs false
set_option maxRecDepth 100000
set_option maxHeartbeats 40000000
namespace Go.Proofs.YtjgegohidhdbpaaGreatDoor
open Go.RowKit Go.Maps Go.WideMaps
section
variable {X : Nat} {v : kU} {s : List UInt8} {xs : List Nd} {B : Nat} {c1 : Lit → Nat} {n1 : Nat} {P1 : Lit → Prop} {c2 : Lit → Nat} {n2 : Nat} {M2 : Nat → Prop} {J : (Nat → Prop) → List Lit → World → Prop}
theorem Vn (jx : JX X v s xs B c1 n1 P1 c2 n2 M2 J) (fx : Fx v s xs B P1) (n p : Nat) (hn : n < v.n) (hp : p ≤ s.length) (hx : xs[n]? = some ⟨-1, 0, 0, 0, 0, 0, 0, 0, 0, 0⟩) : zA X v s B M2 J 132 n (.leaf ⟨-1, 0, 0, 0, 0, 0, 0, 0, 0, 0⟩) p := by
 have jp := fx.sl
 intro c had E es w fb f JR kC qB hJ hE zJ qv
 have iv := jx.iv hJ
 have zO : ∀ S, qb S w (w.alloc (.cells (cH had) 27)) := fun S => (qb.refl S w).alloc _
 have iv1 := iv.keeps (zO _)
 have x0 := iv1.tr.c0
 have d := iv1.nodes.cell n _ hx
 have d_ := zB d
 have qH : ∀ S, qb S w ((w.alloc (.cells (cH had) 27)).alloc (.cells (nA (-1) 0 0 0 0 0 0 0 0 0) 57)) := fun S => (zO S).alloc _
 have jD := (qc w had).alloc (.cells (nA (-1) 0 0 0 0 0 0 0 0 0) 57)
 have zk := qv.keeps (qH (fun _ => False)) id
 have vV := jx.keeps hJ (qH _)
 have Qq : ∀ b, E b → b < ((w.alloc (.cells (cH had) 27)).alloc (.cells (nA (-1) 0 0 0 0 0 0 0 0 0) 57)).heap.size := fun b hb => by
  have := hE b hb
  have := (qH (fun _ => False)).size
  omega
 have x01 := (iv.keeps (qH _)).tr.c0
 have ZO : ¬ Mt v fb ∧ ¬ M2 fb := ⟨fun e => by
  obtain ⟨o1, o2, o3, o4, o5, o6, o7⟩ := iv.out
  rcases e with e | e | e
  ·subst e; exact o4 (.inl zJ)
  ·subst e; exact o5 (.inl zJ)
  ·subst e; exact o6 (.inl zJ), fun e => (jx.lt hJ fb e).2 _ _ qv⟩
 have k_ := qc.ten (w := ((w.alloc (.cells (cH had) 27)).alloc (.cells (nA (-1) 0 0 0 0 0 0 0 0 0) 57))) (b := w.heap.size) (had := had) jD
 have HIV2 := ξ (iv.keeps (qH _))
 have yg := ξ qH
 have HX := ξ jx
 have HJ := ξ hJ
 have Yc := ξ zk
 have GE : X ≠ fb := fun e => iv.out.1 (.inl (e ▸ zJ))
 clear qH hx ZO
 clear d x01 zk vV Qq zO jD iv iv1 hJ hE qv qB kC jx
 unfold qk PV
 go_enter func132, ntmps132
 go_wp2
 clear k_
 go_loopw [16] (fun kv wr => ∃ (k : Nat) (g : Nat → Bool), kv = .int .i64 k ∧ p ≤ k ∧ k ≤ s.length + 1 ∧ qI wr fb (s.length / 64 + 1) g ∧ (∀ j, g j = (f j || (decide (p ≤ j) && decide (j < k)))) ∧ qb (fun b => b = fb) ((w.alloc (.cells (cH had) 27)).alloc (.cells (nA (-1) 0 0 0 0 0 0 0 0 0) 57)) wr) (fun kv _ => s.length + 1 - (RowKit.intOf kv).toNat)
 case atStart => exact ⟨p, f, rfl, Nat.le_refl _, by omega, Yc.out, fun j => by
  have : (decide (p ≤ j) && decide (j < p)) = false := by rw [Bool.eq_false_iff]; intro e; rw [Bool.and_eq_true, decide_eq_true_iff, decide_eq_true_iff] at e; omega
  rw [this, Bool.or_false], qb.refl _ _⟩
 case round =>
  obtain ⟨k, g, rfl, hpk, jl, qv, hg, hK⟩ := hrel
  have x1 := (HIV2.out.tr.keeps hK GE).c1
  by_cases zb : k ≤ s.length
  ·have kW := WX fb (s.length / 64 + 1) (s.length / 64 + 1) k g (by omega) (by omega) wr qv
   have Kk := ξ kW
   have vP := ξ ((qv.put k).drew)
   have HK := ξ (ζ hg (hK.trans (Zd wr fb (k / 64) (.int .u64 (wd (fun i => g i || i == k) (k / 64))))))
   clear kW qv hg hK
   go_wp2_with fail
   refine Kk.out.mono ?_
   rintro e w4 ⟨rfl, hw4⟩
   have jW := ξ hw4
   clear hw4 Kk
   go_wp2
   go_roundw
   case rel =>
    refine ⟨k + 1, _, by simp, by omega, by omega, by rw [jW.out]; exact vP.out, fun j => ?_, by rw [jW.out]; exact HK.out.2⟩
    have eb : (j == k) = decide (j = k) := rfl
    rw [HK.out.1 j, eb]
    cases f j with
    | true => simp
    | false =>
     rw [Bool.false_or, Bool.false_or, Bool.eq_iff_iff]
     simp only [Bool.or_eq_true, Bool.and_eq_true, decide_eq_true_iff]
     omega
   case measure => (simp [RowKit.intOf]) <;> omega
  ·have qt := ξ (ζ qv (ζ hg hK))
   clear qv hg hK
   go_wp2
   first | go_end0 | refine bodyPost_ret (results_none rfl _ _ _) rfl ?_
   first
   | refine ⟨es, rfl, ?_, List.prefix_refl _, HX.out.keeps (HX.out.keeps HJ.out (yg.out _)) (qt.out.2.2.mono (fun i _ e => e ▸ zJ)), (yg.out _).trans (qt.out.2.2.mono (fun i _ e => .inr e))⟩
   | refine ⟨rfl, ?_, es, List.prefix_refl _, HX.out.keeps (HX.out.keeps HJ.out (yg.out _)) (qt.out.2.2.mono (fun i _ e => e ▸ zJ)), (yg.out _).trans (qt.out.2.2.mono (fun i _ e => .inr e))⟩
   have e : g = (fun j => f j || (qd s (.leaf ⟨-1, 0, 0, 0, 0, 0, 0, 0, 0, 0⟩)).ends p c had j) := by
    funext j
    rw [qt.out.2.1 j]
    have e2 : (qd s (.leaf ⟨-1, 0, 0, 0, 0, 0, 0, 0, 0, 0⟩)).ends p c had j = (decide (p ≤ j) && decide (j ≤ s.length)) := rfl
    rw [e2]
    cases f j with
    | true => simp
    | false =>
     rw [Bool.false_or, Bool.false_or, Bool.eq_iff_iff]
     simp only [Bool.or_eq_true, Bool.and_eq_true, decide_eq_true_iff]
     omega
   rw [← e]
   exact qt.out.1
end
end Go.Proofs.YtjgegohidhdbpaaGreatDoor
namespace Go.Proofs.YtjgegohidhdbpaaGreatDoor
open Go.RowKit
theorem Zh (x : Nd) (c : Nat) (hc : c ≤ 1000000) (hm : 0 ≤ x.mn ∧ x.mn ≤ 255) (w : World) :
  Calls prog 143 #[Je x, .int .i64 c] w fun e w' => e = .returned (.int .i64 (qO x.mn x.mx c : Nat)) ∧ Below w.heap.size w w' := by
 obtain ⟨kd, w0, w1, w2, w3, xa, xb, m, M, xn⟩ := x
 simp only at hm
 unfold Je qO
 simp only
 obtain ⟨K, rfl⟩ := Int.eq_ofNat_of_zero_le hm.1
 by_cases hM : M = -1
 ·subst hM
  rw [if_pos rfl, Int.toNat_natCast]
  have hK : K ≤ 255 := by omega
  have qgv : min ((c : Int) + 1) (K : Int) = ((min (c + 1) K : Nat) : Int) := by omega
  have HMin := ξ qgv
  clear qgv
  go_enter func143, ntmps143
  go_wp2
  go_ret
  refine ⟨?_, (Below.refl _ w).alloc (Nat.le_refl _) _⟩
  rw [← HMin.out]; rfl
 ·rw [if_neg hM]
  have z : (M == -1) = false := by rw [beq_eq_false_iff_ne]; exact hM
  go_enter func143, ntmps143
  go_wp2
  go_ret
  exact ⟨rfl, (Below.refl _ w).alloc (Nat.le_refl _) _⟩
theorem yB (s : List UInt8) (i : Int) (w : World) :
  Calls prog 33 #[.string ⟨s.toArray⟩, .int .i64 i] w fun e w' => e = .returned (.bool (decide (0 ≤ i ∧ i ≤ s.length))) ∧ w' = w := by
 by_cases h0 : 0 ≤ i
 ·by_cases h1 : i ≤ s.length
  ·rw [decide_eq_true ⟨h0, h1⟩]
   go_enter func33, ntmps33
   go_wp2
   go_ret
   exact ⟨rfl, rfl⟩
  ·rw [decide_eq_false (fun h => h1 h.2)]
   go_enter func33, ntmps33
   go_wp2
   go_ret
   exact ⟨rfl, rfl⟩
 ·rw [decide_eq_false (fun h => h0 h.1)]
  go_enter func33, ntmps33
  go_wp2
  go_ret
  exact ⟨rfl, rfl⟩
end Go.Proofs.YtjgegohidhdbpaaGreatDoor
