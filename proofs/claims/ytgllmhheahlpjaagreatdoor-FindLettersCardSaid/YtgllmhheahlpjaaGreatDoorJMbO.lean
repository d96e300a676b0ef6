/- A trial: reach at anything. -/
import Derived.Test.YtgllmhheahlpjaaGreatDoorJMcH
import Derived.Test.YtgllmhheahlpjaaGreatDoorJMbS
set_option linter.unusedVariables false
set_option linter.unusedSimpArgs false
set_option maxRecDepth 100000
set_option maxHeartbeats 40000000
namespace Go.Proofs.YtgllmhheahlpjaaGreatDoor
open Go.RowKit Go.Maps Go.WideMaps
section
variable {X : Nat} {v : TrV} {s : List UInt8} {xs : List Nd} {B : Nat} {c1 : Lit → Nat} {n1 : Nat} {P1 : Lit → Prop} {c2 : Lit → Nat} {n2 : Nat} {M2 : Nat → Prop} {J : (Nat → Prop) → List Lit → World → Prop}
theorem reach_anything (jx : JX X v s xs B c1 n1 P1 c2 n2 M2 J) (fx : Fx v s xs B P1) (n p : Nat) (hn : n < v.n) (hp : p ≤ s.length) (hx : xs[n]? = some ⟨-1, 0, 0, 0, 0, 0, 0, 0, 0, 0⟩) : FillC X v s B M2 J 138 n (.leaf ⟨-1, 0, 0, 0, 0, 0, 0, 0, 0, 0⟩) p := by
 have hsl := fx.sl
 intro c had E es w fb f hcB hcnt hcap hJ hE hfb hrow
 have iv := jx.iv hJ
 have hk1 : ∀ S, Keeps S w (w.alloc (.cells (cH had) 27)) := fun S => (Keeps.refl S w).alloc _
 have iv1 := iv.keeps (hk1 _)
 have x0 := iv1.tr.c0
 have d := iv1.nodes.cell n _ hx
 have d0 : (w.alloc (.cells (cH had) 27)).cell? ⟨v.lb, v.lo + n * 10, none⟩ = some (.int .i64 (-1)) := d 0 _ rfl
 have d1 : (w.alloc (.cells (cH had) 27)).cell? ⟨v.lb, v.lo + n * 10 + 1, none⟩ = some (.int .u64 0) := d 1 _ rfl
 have d2 : (w.alloc (.cells (cH had) 27)).cell? ⟨v.lb, v.lo + n * 10 + 2, none⟩ = some (.int .u64 0) := d 2 _ rfl
 have d3 : (w.alloc (.cells (cH had) 27)).cell? ⟨v.lb, v.lo + n * 10 + 3, none⟩ = some (.int .u64 0) := d 3 _ rfl
 have d4 : (w.alloc (.cells (cH had) 27)).cell? ⟨v.lb, v.lo + n * 10 + 4, none⟩ = some (.int .u64 0) := d 4 _ rfl
 have d5 : (w.alloc (.cells (cH had) 27)).cell? ⟨v.lb, v.lo + n * 10 + 5, none⟩ = some (.int .i64 0) := d 5 _ rfl
 have d6 : (w.alloc (.cells (cH had) 27)).cell? ⟨v.lb, v.lo + n * 10 + 6, none⟩ = some (.int .i64 0) := d 6 _ rfl
 have d7 : (w.alloc (.cells (cH had) 27)).cell? ⟨v.lb, v.lo + n * 10 + 7, none⟩ = some (.int .i64 0) := d 7 _ rfl
 have d8 : (w.alloc (.cells (cH had) 27)).cell? ⟨v.lb, v.lo + n * 10 + 8, none⟩ = some (.int .i64 0) := d 8 _ rfl
 have d9 : (w.alloc (.cells (cH had) 27)).cell? ⟨v.lb, v.lo + n * 10 + 9, none⟩ = some (.int .i64 0) := d 9 _ rfl
 have hk2 : ∀ S, Keeps S w ((w.alloc (.cells (cH had) 27)).alloc (.cells (nA (-1) 0 0 0 0 0 0 0 0 0) 60)) := fun S => (hk1 S).alloc _
 have hb2 := (capBlk w had).alloc (.cells (nA (-1) 0 0 0 0 0 0 0 0 0) 60)
 have hrow2 := hrow.keeps (hk2 (fun _ => False)) id
 have hJ2 := jx.keeps hJ (hk2 _)
 have hE2 : ∀ b, E b → b < ((w.alloc (.cells (cH had) 27)).alloc (.cells (nA (-1) 0 0 0 0 0 0 0 0 0) 60)).heap.size := fun b hb => by
  have := hE b hb
  have := (hk2 (fun _ => False)).size
  omega
 have x01 := (iv.keeps (hk2 _)).tr.c0
 have hnM : ¬ Mt v fb ∧ ¬ M2 fb := ⟨fun e => by
  obtain ⟨o1, o2, o3, o4, o5, o6, o7⟩ := iv.out
  rcases e with e | e | e
  ·subst e; exact o4 (.inl hfb)
  ·subst e; exact o5 (.inl hfb)
  ·subst e; exact o6 (.inl hfb), fun e => (jx.lt hJ fb e).2 _ _ hrow⟩
 obtain ⟨k0, k1, k2, k3, k4, k5, k6, k7, k8, k9⟩ := capBlk.ten (w := ((w.alloc (.cells (cH had) 27)).alloc (.cells (nA (-1) 0 0 0 0 0 0 0 0 0) 60))) (b := w.heap.size) (had := had) hb2
 have HIV2 := Lib.hid (iv.keeps (hk2 _))
 have HK2 := Lib.hid hk2
 have HX := Lib.hid jx
 have HJ := Lib.hid hJ
 have HROW2 := Lib.hid hrow2
 have hXb : X ≠ fb := fun e => iv.out.1 (.inl (e ▸ hfb))
 clear hk2 hx hnM
 clear d x01 hrow2 hJ2 hE2 hk1 hb2 iv iv1 hJ hE hrow hcap hcnt jx
 unfold capV PV
 go_enter Tryz.func138, Tryz.ntmps138
 go_wp2
 clear k0 k1 k2 k3 k4 k5 k6 k7 k8 k9
 go_loopw [16] (fun kv wr => ∃ (k : Nat) (g : Nat → Bool), kv = .int .i64 k ∧ p ≤ k ∧ k ≤ s.length + 1 ∧ PRow wr fb (s.length / 64 + 1) g ∧ (∀ j, g j = (f j || (decide (p ≤ j) && decide (j < k)))) ∧ Keeps (fun b => b = fb) ((w.alloc (.cells (cH had) 27)).alloc (.cells (nA (-1) 0 0 0 0 0 0 0 0 0) 60)) wr) (fun kv _ => s.length + 1 - (RowKit.intOf kv).toNat)
 case atStart => exact ⟨p, f, rfl, Nat.le_refl _, by omega, HROW2.out, fun j => by
  have : (decide (p ≤ j) && decide (j < p)) = false := by rw [Bool.eq_false_iff]; intro e; rw [Bool.and_eq_true, decide_eq_true_iff, decide_eq_true_iff] at e; omega
  rw [this, Bool.or_false], Keeps.refl _ _⟩
 case round =>
  obtain ⟨k, g, rfl, hpk, hkl, hrow, hg, hK⟩ := hrel
  have x1 := (HIV2.out.tr.keeps hK hXb).c1
  by_cases hlt : k ≤ s.length
  ·have hput := put_m fb (s.length / 64 + 1) (s.length / 64 + 1) k g (by omega) (by omega) wr hrow
   have HPUT := Lib.hid hput
   have HROW := Lib.hid ((hrow.put k).drew)
   have HK := Lib.hid (And.intro hg (hK.trans (put_keeps wr fb (k / 64) (.int .u64 (wd (fun i => g i || i == k) (k / 64))))))
   clear hput hrow hg hK
   go_wp2_with fail
   refine HPUT.out.mono ?_
   rintro e w4 ⟨rfl, hw4⟩
   have HW4 := Lib.hid hw4
   clear hw4 HPUT
   go_wp2
   go_roundw
   case rel =>
    refine ⟨k + 1, _, by simp, by omega, by omega, by rw [HW4.out]; exact HROW.out, fun j => ?_, by rw [HW4.out]; exact HK.out.2⟩
    have eb : (j == k) = decide (j = k) := rfl
    rw [HK.out.1 j, eb]
    cases f j with
    | true => simp
    | false =>
     rw [Bool.false_or, Bool.false_or, Bool.eq_iff_iff]
     simp only [Bool.or_eq_true, Bool.and_eq_true, decide_eq_true_iff]
     omega
   case measure => (simp [RowKit.intOf]) <;> omega
  ·have HALL := Lib.hid (And.intro hrow (And.intro hg hK))
   clear hrow hg hK
   go_wp2
   first | go_end0 | refine bodyPost_ret (results_none rfl _ _ _) rfl ?_
   first
   | refine ⟨es, rfl, ?_, List.prefix_refl _, HX.out.keeps (HX.out.keeps HJ.out (HK2.out _)) (HALL.out.2.2.mono (fun i _ e => e ▸ hfb)), (HK2.out _).trans (HALL.out.2.2.mono (fun i _ e => .inr e))⟩
   | refine ⟨rfl, ?_, es, List.prefix_refl _, HX.out.keeps (HX.out.keeps HJ.out (HK2.out _)) (HALL.out.2.2.mono (fun i _ e => e ▸ hfb)), (HK2.out _).trans (HALL.out.2.2.mono (fun i _ e => .inr e))⟩
   have e : g = (fun j => f j || (semT s (.leaf ⟨-1, 0, 0, 0, 0, 0, 0, 0, 0, 0⟩)).ends p c had j) := by
    funext j
    rw [HALL.out.2.1 j]
    have e2 : (semT s (.leaf ⟨-1, 0, 0, 0, 0, 0, 0, 0, 0, 0⟩)).ends p c had j = (decide (p ≤ j) && decide (j ≤ s.length)) := rfl
    rw [e2]
    cases f j with
    | true => simp
    | false =>
     rw [Bool.false_or, Bool.false_or, Bool.eq_iff_iff]
     simp only [Bool.or_eq_true, Bool.and_eq_true, decide_eq_true_iff]
     omega
   rw [← e]
   exact HALL.out.1
end
end Go.Proofs.YtgllmhheahlpjaaGreatDoor
namespace Go.Proofs.YtgllmhheahlpjaaGreatDoor
open Go.RowKit
theorem onemore_c (x : Nd) (c : Nat) (hc : c ≤ 1000000) (hm : 0 ≤ x.mn ∧ x.mn ≤ 255) (w : World) :
  Calls Tryz.prog 151 #[ndV x, .int .i64 c] w fun e w' => e = .returned (.int .i64 (oneMore x.mn x.mx c : Nat)) ∧ Below w.heap.size w w' := by
 obtain ⟨kd, w0, w1, w2, w3, xa, xb, m, M, xn⟩ := x
 simp only at hm
 unfold ndV oneMore
 simp only
 obtain ⟨K, rfl⟩ := Int.eq_ofNat_of_zero_le hm.1
 by_cases hM : M = -1
 ·subst hM
  rw [if_pos rfl, Int.toNat_natCast]
  have hK : K ≤ 255 := by omega
  have hmin : min ((c : Int) + 1) (K : Int) = ((min (c + 1) K : Nat) : Int) := by omega
  have HMin := Lib.hid hmin
  clear hmin
  go_enter Tryz.func151, Tryz.ntmps151
  go_wp2
  go_ret
  refine ⟨?_, (Below.refl _ w).alloc (Nat.le_refl _) _⟩
  rw [← HMin.out]; rfl
 ·rw [if_neg hM]
  have z : (M == -1) = false := by rw [beq_eq_false_iff_ne]; exact hM
  go_enter Tryz.func151, Tryz.ntmps151
  go_wp2
  go_ret
  exact ⟨rfl, (Below.refl _ w).alloc (Nat.le_refl _) _⟩
theorem isplace_c (s : List UInt8) (i : Int) (w : World) :
  Calls Tryz.prog 42 #[.string ⟨s.toArray⟩, .int .i64 i] w fun e w' => e = .returned (.bool (decide (0 ≤ i ∧ i ≤ s.length))) ∧ w' = w := by
 by_cases h0 : 0 ≤ i
 ·by_cases h1 : i ≤ s.length
  ·rw [decide_eq_true ⟨h0, h1⟩]
   go_enter Tryz.func42, Tryz.ntmps42
   go_wp2
   go_ret
   exact ⟨rfl, rfl⟩
  ·rw [decide_eq_false (fun h => h1 h.2)]
   go_enter Tryz.func42, Tryz.ntmps42
   go_wp2
   go_ret
   exact ⟨rfl, rfl⟩
 ·rw [decide_eq_false (fun h => h0 h.1)]
  go_enter Tryz.func42, Tryz.ntmps42
  go_wp2
  go_ret
  exact ⟨rfl, rfl⟩
end Go.Proofs.YtgllmhheahlpjaaGreatDoor
