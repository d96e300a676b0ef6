/- A trial: reach at a group, at alternatives. -/
import Derived.Test.YtgllmhheahlpjaaGreatDoorJMcD
import Derived.Test.YtgllmhheahlpjaaGreatDoorJMbT
set_option linter.unusedVariables false
set_option linter.unusedSimpArgs false
set_option maxRecDepth 100000
set_option maxHeartbeats 40000000
namespace Go.Proofs.YtgllmhheahlpjaaGreatDoor
open Go.RowKit Go.Maps Go.WideMaps
section
variable {X : Nat} {v : TrV} {s : List UInt8} {xs : List Nd} {B : Nat} {c1 : Lit → Nat} {n1 : Nat} {P1 : Lit → Prop} {c2 : Lit → Nat} {n2 : Nat} {M2 : Nat → Prop} {J : (Nat → Prop) → List Lit → World → Prop}
theorem reach_group (jx : JX X v s xs B c1 n1 P1 c2 n2 M2 J) (fx : Fx v s xs B P1) (n p pa : Nat) (N : Int) (t : T) (hn : n < v.n) (hp : p ≤ s.length) (hx : xs[n]? = some ⟨7, 0, 0, 0, 0, (pa : Int), 0, 0, 0, N⟩) (h0 : CntOk t 0) (hA : FillC X v s B M2 J 120 pa t p) : FillC X v s B M2 J 138 n (.group N t) p := by
 have hB0 := fx.B1
 intro c had E es w fb f hcB hcnt hcap hJ hE hfb hrow
 have iv := jx.iv hJ
 have hk1 : ∀ S, Keeps S w (w.alloc (.cells (cH had) 27)) := fun S => (Keeps.refl S w).alloc _
 have iv1 := iv.keeps (hk1 _)
 have x0 := iv1.tr.c0
 have d := iv1.nodes.cell n _ hx
 have d0 : (w.alloc (.cells (cH had) 27)).cell? ⟨v.lb, v.lo + n * 10, none⟩ = some (.int .i64 7) := d 0 _ rfl
 have d1 : (w.alloc (.cells (cH had) 27)).cell? ⟨v.lb, v.lo + n * 10 + 1, none⟩ = some (.int .u64 0) := d 1 _ rfl
 have d2 : (w.alloc (.cells (cH had) 27)).cell? ⟨v.lb, v.lo + n * 10 + 2, none⟩ = some (.int .u64 0) := d 2 _ rfl
 have d3 : (w.alloc (.cells (cH had) 27)).cell? ⟨v.lb, v.lo + n * 10 + 3, none⟩ = some (.int .u64 0) := d 3 _ rfl
 have d4 : (w.alloc (.cells (cH had) 27)).cell? ⟨v.lb, v.lo + n * 10 + 4, none⟩ = some (.int .u64 0) := d 4 _ rfl
 have d5 : (w.alloc (.cells (cH had) 27)).cell? ⟨v.lb, v.lo + n * 10 + 5, none⟩ = some (.int .i64 (pa : Int)) := d 5 _ rfl
 have d6 : (w.alloc (.cells (cH had) 27)).cell? ⟨v.lb, v.lo + n * 10 + 6, none⟩ = some (.int .i64 0) := d 6 _ rfl
 have d7 : (w.alloc (.cells (cH had) 27)).cell? ⟨v.lb, v.lo + n * 10 + 7, none⟩ = some (.int .i64 0) := d 7 _ rfl
 have d8 : (w.alloc (.cells (cH had) 27)).cell? ⟨v.lb, v.lo + n * 10 + 8, none⟩ = some (.int .i64 0) := d 8 _ rfl
 have d9 : (w.alloc (.cells (cH had) 27)).cell? ⟨v.lb, v.lo + n * 10 + 9, none⟩ = some (.int .i64 N) := d 9 _ rfl
 have hk2 : ∀ S, Keeps S w ((w.alloc (.cells (cH had) 27)).alloc (.cells (nA 7 0 0 0 0 (pa : Int) 0 0 0 N) 60)) := fun S => (hk1 S).alloc _
 have hb2 := (capBlk w had).alloc (.cells (nA 7 0 0 0 0 (pa : Int) 0 0 0 N) 60)
 have hrow2 := hrow.keeps (hk2 (fun _ => False)) id
 have hJ2 := jx.keeps hJ (hk2 _)
 have hE2 : ∀ b, E b → b < ((w.alloc (.cells (cH had) 27)).alloc (.cells (nA 7 0 0 0 0 (pa : Int) 0 0 0 N) 60)).heap.size := fun b hb => by
  have := hE b hb
  have := (hk2 (fun _ => False)).size
  omega
 have x01 := (iv.keeps (hk2 _)).tr.c0
 have hnM : ¬ Mt v fb ∧ ¬ M2 fb := ⟨fun e => by
  obtain ⟨o1, o2, o3, o4, o5, o6, o7⟩ := iv.out
  rcases e with e | e | e
  ·subst e; exact o4 (.inl hfb)
  ·subst e; exact o5 (.inl hfb)
  ·subst e; exact o6 (.inl hfb), fun e => (jx.lt hJ fb e).2 _ _ hrow⟩
 obtain ⟨k0, k1, k2, k3, k4, k5, k6, k7, k8, k9⟩ := capBlk.ten (w := ((w.alloc (.cells (cH had) 27)).alloc (.cells (nA 7 0 0 0 0 (pa : Int) 0 0 0 N) 60))) (b := w.heap.size) (had := had) hb2
 have hcall := hA 0 had E es _ fb f (by omega) h0 hcap hJ2 hE2 hfb hrow2
 unfold PV capV at hcall
 have HCALL := Lib.hid hcall
 have HK2 := Lib.hid hk2
 clear hcall hk2 hA hx hnM
 clear d x01 hrow2 hJ2 hE2 hk1 hb2 iv iv1 hJ hE hrow hcap hcnt jx
 unfold capV PV
 go_enter Tryz.func138, Tryz.ntmps138
 go_wp2_with fail
 refine HCALL.out.mono ?_
 rintro e w3 ⟨fs, rfl, hrow3, hpre, hJ3, hk3⟩
 go_wp2
 first | go_end0 | refine bodyPost_ret (results_none rfl _ _ _) rfl ?_
 exact ⟨fs, rfl, hrow3, hpre, hJ3, (HK2.out _).trans hk3⟩
theorem reach_alt (jx : JX X v s xs B c1 n1 P1 c2 n2 M2 J) (fx : Fx v s xs B P1) (n p pa pb : Nat) (ta tb : T) (hn : n < v.n) (hp : p ≤ s.length) (hx : xs[n]? = some ⟨5, 0, 0, 0, 0, (pa : Int), (pb : Int), 0, 0, 0⟩) (ha0 : CntOk ta 0) (hb0 : CntOk tb 0) (hA : FillC X v s B M2 J 120 pa ta p) (hB : FillC X v s B M2 J 120 pb tb p) : FillC X v s B M2 J 138 n (.two 5 ta tb) p := by
 have hB0 := fx.B1
 intro c had E es w fb f hcB hcnt hcap hJ hE hfb hrow
 have iv := jx.iv hJ
 have hk1 : ∀ S, Keeps S w (w.alloc (.cells (cH had) 27)) := fun S => (Keeps.refl S w).alloc _
 have iv1 := iv.keeps (hk1 _)
 have x0 := iv1.tr.c0
 have d := iv1.nodes.cell n _ hx
 have d0 : (w.alloc (.cells (cH had) 27)).cell? ⟨v.lb, v.lo + n * 10, none⟩ = some (.int .i64 5) := d 0 _ rfl
 have d1 : (w.alloc (.cells (cH had) 27)).cell? ⟨v.lb, v.lo + n * 10 + 1, none⟩ = some (.int .u64 0) := d 1 _ rfl
 have d2 : (w.alloc (.cells (cH had) 27)).cell? ⟨v.lb, v.lo + n * 10 + 2, none⟩ = some (.int .u64 0) := d 2 _ rfl
 have d3 : (w.alloc (.cells (cH had) 27)).cell? ⟨v.lb, v.lo + n * 10 + 3, none⟩ = some (.int .u64 0) := d 3 _ rfl
 have d4 : (w.alloc (.cells (cH had) 27)).cell? ⟨v.lb, v.lo + n * 10 + 4, none⟩ = some (.int .u64 0) := d 4 _ rfl
 have d5 : (w.alloc (.cells (cH had) 27)).cell? ⟨v.lb, v.lo + n * 10 + 5, none⟩ = some (.int .i64 (pa : Int)) := d 5 _ rfl
 have d6 : (w.alloc (.cells (cH had) 27)).cell? ⟨v.lb, v.lo + n * 10 + 6, none⟩ = some (.int .i64 (pb : Int)) := d 6 _ rfl
 have d7 : (w.alloc (.cells (cH had) 27)).cell? ⟨v.lb, v.lo + n * 10 + 7, none⟩ = some (.int .i64 0) := d 7 _ rfl
 have d8 : (w.alloc (.cells (cH had) 27)).cell? ⟨v.lb, v.lo + n * 10 + 8, none⟩ = some (.int .i64 0) := d 8 _ rfl
 have d9 : (w.alloc (.cells (cH had) 27)).cell? ⟨v.lb, v.lo + n * 10 + 9, none⟩ = some (.int .i64 0) := d 9 _ rfl
 have hk2 : ∀ S, Keeps S w ((w.alloc (.cells (cH had) 27)).alloc (.cells (nA 5 0 0 0 0 (pa : Int) (pb : Int) 0 0 0) 60)) := fun S => (hk1 S).alloc _
 have hb2 := (capBlk w had).alloc (.cells (nA 5 0 0 0 0 (pa : Int) (pb : Int) 0 0 0) 60)
 have hrow2 := hrow.keeps (hk2 (fun _ => False)) id
 have hJ2 := jx.keeps hJ (hk2 _)
 have hE2 : ∀ b, E b → b < ((w.alloc (.cells (cH had) 27)).alloc (.cells (nA 5 0 0 0 0 (pa : Int) (pb : Int) 0 0 0) 60)).heap.size := fun b hb => by
  have := hE b hb
  have := (hk2 (fun _ => False)).size
  omega
 have x01 := (iv.keeps (hk2 _)).tr.c0
 have hnM : ¬ Mt v fb ∧ ¬ M2 fb := ⟨fun e => by
  obtain ⟨o1, o2, o3, o4, o5, o6, o7⟩ := iv.out
  rcases e with e | e | e
  ·subst e; exact o4 (.inl hfb)
  ·subst e; exact o5 (.inl hfb)
  ·subst e; exact o6 (.inl hfb), fun e => (jx.lt hJ fb e).2 _ _ hrow⟩
 obtain ⟨k0, k1, k2, k3, k4, k5, k6, k7, k8, k9⟩ := capBlk.ten (w := ((w.alloc (.cells (cH had) 27)).alloc (.cells (nA 5 0 0 0 0 (pa : Int) (pb : Int) 0 0 0) 60))) (b := w.heap.size) (had := had) hb2
 have hcall := hA 0 had E es _ fb f (by omega) ha0 hcap hJ2 hE2 hfb hrow2
 unfold PV capV at hcall
 have HCALL := Lib.hid hcall
 have HK2 := Lib.hid hk2
 have HB2 := Lib.hid (And.intro hb2 (And.intro hE2 (And.intro hcap hnM)))
 have HBB := Lib.hid hB
 have lfb := hrow.lt
 have lw := iv.lts
 have HM2 := Lib.hid (fun b hb => (jx.lt hJ b hb).1)
 have hn5 : Blk ((w.alloc (.cells (cH had) 27)).alloc (.cells (nA 5 0 0 0 0 (pa : Int) (pb : Int) 0 0 0) 60)) (w.heap.size + 1) (nA 5 0 0 0 0 (pa : Int) (pb : Int) 0 0 0) 60 := by
  have := Blk.new (w.alloc (.cells (cH had) 27)) (nA 5 0 0 0 0 (pa : Int) (pb : Int) 0 0 0) 60
  rw [World.size_alloc] at this
  exact this
 have HN5 := Lib.hid hn5
 clear hcall hk2 hA hB hx hnM hn5
 clear d x01 hrow2 hJ2 hE2 hk1 hb2 iv iv1 hJ hE hrow hcap hcnt jx
 unfold capV PV
 go_enter Tryz.func138, Tryz.ntmps138
 go_wp2_with fail
 refine HCALL.out.mono ?_
 rintro e w3 ⟨fs, rfl, hrow3, hpre, hJ3, hk3⟩
 have hno : ∀ b, w.heap.size ≤ b → ¬ ((Mt v b ∨ M2 b) ∨ b = fb) := fun b hb e => by
  rcases e with (e | e) | e
  ·rcases e with e | e | e <;> omega
  ·have := HM2.out b e; omega
  ·omega
 have hb3 := HB2.out.1.keeps hk3 (hno _ (by omega))
 have n53 := HN5.out.keeps hk3 (hno _ (by omega))
 have m6 : w3.cell? ⟨w.heap.size + 1, 6, none⟩ = some (.int .i64 (pb : Int)) := n53.cell 6
 have hsz := hk3.size
 clear k0 k1 k2 k3 k4 k5 k6 k7 k8 k9 HCALL
 obtain ⟨k0, k1, k2, k3, k4, k5, k6, k7, k8, k9⟩ := capBlk.ten (w := w3) (b := w.heap.size) (had := had) hb3
 have hcall := HBB.out 0 had E fs w3 fb _ (by omega) hb0 HB2.out.2.2.1 hJ3 (fun b hb => Nat.lt_of_lt_of_le (HB2.out.2.1 b hb) hsz) hfb hrow3
 unfold PV capV at hcall
 have HCALL := Lib.hid hcall
 have HALL := Lib.hid (And.intro hpre hk3)
 clear hcall hpre hk3 hrow3 hJ3 hb3 n53
 go_wp2_with fail
 refine HCALL.out.mono ?_
 rintro e w4 ⟨gs, rfl, hrow4, hpre4, hJ4, hk4⟩
 go_wp2
 first | go_end0 | refine bodyPost_ret (results_none rfl _ _ _) rfl ?_
 refine ⟨gs, rfl, ?_, HALL.out.1.trans hpre4, hJ4, ((HK2.out _).trans HALL.out.2).trans hk4⟩
 have e : (fun j => (f j || (semT s ta).ends p 0 had j) || (semT s tb).ends p 0 had j) = (fun j => f j || (semT s (.two 5 ta tb)).ends p c had j) := by
  funext j
  rw [Bool.or_assoc]
  rfl
 rw [← e]
 exact hrow4
end
end Go.Proofs.YtgllmhheahlpjaaGreatDoor
namespace Go.Proofs.YtgllmhheahlpjaaGreatDoor
open Go.RowKit Go.Maps Go.WideMaps
section
variable {X : Nat} {v : TrV} {s : List UInt8} {xs : List Nd} {B : Nat} {c1 : Lit → Nat} {n1 : Nat} {P1 : Lit → Prop} {c2 : Lit → Nat} {n2 : Nat} {M2 : Nat → Prop} {J : (Nat → Prop) → List Lit → World → Prop}
theorem reach_run (jx : JX X v s xs B c1 n1 P1 c2 n2 M2 J) (fx : Fx v s xs B P1) (n p q : Nat) (m M : Int) (t : T) (y : Nd) (hn : n < v.n) (hp : p ≤ s.length) (ht : Sub (fun i => xs[i]?) (.times m M t) n) (hx : xs[n]? = some ⟨6, 0, 0, 0, 0, (q : Int), 0, m, M, 0⟩) (hq : q < v.n) (hy : xs[q]? = some y) (hm : 0 ≤ m ∧ m ≤ 255) (hbt : t.isBytes = some y.set) : FillC X v s B M2 J 138 n (.times m M t) p := by
 have hir : isRunT (.times m M t) = true := by simp [isRunT, hbt]
 have hyf := fx.fits _ _ hy
 have hsl := fx.sl
 have hn2 := fx.n2
 intro c had E es w fb f hcB hcnt hcap hJ hE hfb hrow
 have iv := jx.iv hJ
 have hk1 : ∀ S, Keeps S w (w.alloc (.cells (cH had) 27)) := fun S => (Keeps.refl S w).alloc _
 have iv1 := iv.keeps (hk1 _)
 have x0 := iv1.tr.c0
 have d := iv1.nodes.cell n _ hx
 have d0 : (w.alloc (.cells (cH had) 27)).cell? ⟨v.lb, v.lo + n * 10, none⟩ = some (.int .i64 6) := d 0 _ rfl
 have d1 : (w.alloc (.cells (cH had) 27)).cell? ⟨v.lb, v.lo + n * 10 + 1, none⟩ = some (.int .u64 0) := d 1 _ rfl
 have d2 : (w.alloc (.cells (cH had) 27)).cell? ⟨v.lb, v.lo + n * 10 + 2, none⟩ = some (.int .u64 0) := d 2 _ rfl
 have d3 : (w.alloc (.cells (cH had) 27)).cell? ⟨v.lb, v.lo + n * 10 + 3, none⟩ = some (.int .u64 0) := d 3 _ rfl
 have d4 : (w.alloc (.cells (cH had) 27)).cell? ⟨v.lb, v.lo + n * 10 + 4, none⟩ = some (.int .u64 0) := d 4 _ rfl
 have d5 : (w.alloc (.cells (cH had) 27)).cell? ⟨v.lb, v.lo + n * 10 + 5, none⟩ = some (.int .i64 (q : Int)) := d 5 _ rfl
 have d6 : (w.alloc (.cells (cH had) 27)).cell? ⟨v.lb, v.lo + n * 10 + 6, none⟩ = some (.int .i64 0) := d 6 _ rfl
 have d7 : (w.alloc (.cells (cH had) 27)).cell? ⟨v.lb, v.lo + n * 10 + 7, none⟩ = some (.int .i64 m) := d 7 _ rfl
 have d8 : (w.alloc (.cells (cH had) 27)).cell? ⟨v.lb, v.lo + n * 10 + 8, none⟩ = some (.int .i64 M) := d 8 _ rfl
 have d9 : (w.alloc (.cells (cH had) 27)).cell? ⟨v.lb, v.lo + n * 10 + 9, none⟩ = some (.int .i64 0) := d 9 _ rfl
 have hk2 : ∀ S, Keeps S w ((w.alloc (.cells (cH had) 27)).alloc (.cells (nA 6 0 0 0 0 (q : Int) 0 m M 0) 60)) := fun S => (hk1 S).alloc _
 have hb2 := (capBlk w had).alloc (.cells (nA 6 0 0 0 0 (q : Int) 0 m M 0) 60)
 have hrow2 := hrow.keeps (hk2 (fun _ => False)) id
 have hJ2 := jx.keeps hJ (hk2 _)
 have hE2 : ∀ b, E b → b < ((w.alloc (.cells (cH had) 27)).alloc (.cells (nA 6 0 0 0 0 (q : Int) 0 m M 0) 60)).heap.size := fun b hb => by
  have := hE b hb
  have := (hk2 (fun _ => False)).size
  omega
 have x01 := (iv.keeps (hk2 _)).tr.c0
 have hnM : ¬ Mt v fb ∧ ¬ M2 fb := ⟨fun e => by
  obtain ⟨o1, o2, o3, o4, o5, o6, o7⟩ := iv.out
  rcases e with e | e | e
  ·subst e; exact o4 (.inl hfb)
  ·subst e; exact o5 (.inl hfb)
  ·subst e; exact o6 (.inl hfb), fun e => (jx.lt hJ fb e).2 _ _ hrow⟩
 obtain ⟨k0, k1, k2, k3, k4, k5, k6, k7, k8, k9⟩ := capBlk.ten (w := ((w.alloc (.cells (cH had) 27)).alloc (.cells (nA 6 0 0 0 0 (q : Int) 0 m M 0) 60))) (b := w.heap.size) (had := had) hb2
 have hrun := isrun_c X n v s xs (.times m M t) ht fx.len fx.n2 ((w.alloc (.cells (cH had) 27)).alloc (.cells (nA 6 0 0 0 0 (q : Int) 0 m M 0) 60)) (iv.keeps (hk2 _)).tr (iv.keeps (hk2 _)).nodes
 rw [hir] at hrun
 have HRUN := Lib.hid hrun
 have HK2 := Lib.hid hk2
 have HIV := Lib.hid iv
 have HJ := Lib.hid hJ
 have HX := Lib.hid jx
 have HROW := Lib.hid hrow
 have HE := Lib.hid hE
 have hXb : X ≠ fb := fun e => iv.out.1 (.inl (e ▸ hfb))
 have hlb : v.lb ≠ fb := fun e => iv.out.2.1 (.inl (e ▸ hfb))
 have HB2 := Lib.hid (And.intro hb2 (And.intro hcap hcnt))
 have hn5 : Blk ((w.alloc (.cells (cH had) 27)).alloc (.cells (nA 6 0 0 0 0 (q : Int) 0 m M 0) 60)) (w.heap.size + 1) (nA 6 0 0 0 0 (q : Int) 0 m M 0) 60 := by
  have := Blk.new (w.alloc (.cells (cH had) 27)) (nA 6 0 0 0 0 (q : Int) 0 m M 0) 60
  rw [World.size_alloc] at this
  exact this
 have HN5 := Lib.hid hn5
 clear hrun hk2 hx hnM hn5
 clear d x01 hrow2 hJ2 hE2 hk1 hb2 iv iv1 hJ hE hrow hcap hcnt jx
 unfold capV PV
 go_enter Tryz.func138, Tryz.ntmps138
 go_wp2_with fail
 refine HRUN.out.mono ?_
 rintro e w3 ⟨rfl, hB3⟩
 have hk3 : ∀ S, Keeps S w w3 := fun S => (HK2.out S).trans (Keeps.of_below hB3)
 have n53 := HN5.out.below hB3 HN5.out.lt
 have hb3 := HB2.out.1.below hB3 HB2.out.1.lt
 clear k0 k1 k2 k3 k4 k5 k6 k7 k8 k9 HRUN
 have m0 : w3.cell? ⟨w.heap.size + 1, 0, none⟩ = some (.int .i64 6) := n53.cell 0
 have m1 : w3.cell? ⟨w.heap.size + 1, 1, none⟩ = some (.int .u64 0) := n53.cell 1
 have m2 : w3.cell? ⟨w.heap.size + 1, 2, none⟩ = some (.int .u64 0) := n53.cell 2
 have m3 : w3.cell? ⟨w.heap.size + 1, 3, none⟩ = some (.int .u64 0) := n53.cell 3
 have m4 : w3.cell? ⟨w.heap.size + 1, 4, none⟩ = some (.int .u64 0) := n53.cell 4
 have m5 : w3.cell? ⟨w.heap.size + 1, 5, none⟩ = some (.int .i64 (q : Int)) := n53.cell 5
 have m6 : w3.cell? ⟨w.heap.size + 1, 6, none⟩ = some (.int .i64 0) := n53.cell 6
 have m7 : w3.cell? ⟨w.heap.size + 1, 7, none⟩ = some (.int .i64 m) := n53.cell 7
 have m8 : w3.cell? ⟨w.heap.size + 1, 8, none⟩ = some (.int .i64 M) := n53.cell 8
 have m9 : w3.cell? ⟨w.heap.size + 1, 9, none⟩ = some (.int .i64 0) := n53.cell 9
 have hcall := run_c X p fb (s.length / 64 + 1) q v s xs ⟨6, 0, 0, 0, 0, (q : Int), 0, m, M, 0⟩ y rfl hq hn2 hy hyf hm hp (by omega) rfl f w3 (HIV.out.keeps (hk3 _)).tr (HIV.out.keeps (hk3 _)).nodes (HROW.out.keeps (hk3 (fun _ => False)) id) hXb hlb
 unfold ndV at hcall
 have HCALL := Lib.hid hcall
 have HK3 := Lib.hid hk3
 clear hcall hk3 hb3 n53 hB3 hm
 go_wp2_with fail
 refine HCALL.out.mono ?_
 rintro e w4 ⟨rfl, hrow4, hk4⟩
 go_wp2
 first | go_end0 | refine bodyPost_ret (results_none rfl _ _ _) rfl ?_
 refine ⟨es, rfl, ?_, List.prefix_refl _, HX.out.keeps (HX.out.keeps HJ.out (HK3.out _)) (hk4.mono (fun i _ e => e ▸ hfb)), (HK3.out _).trans (hk4.mono (fun i _ e => .inr e))⟩
 have e : (fun i => f i || runE s y.set m M (s.length - p) p 0 i) = (fun j => f j || (semT s (.times m M t)).ends p c had j) := by
  funext j
  simp only [semT, timesS, hbt]
 rw [← e]
 exact hrow4
theorem reach_agn (jx : JX X v s xs B c1 n1 P1 c2 n2 M2 J) (fx : Fx v s xs B P1) (n p q : Nat) (m M : Int) (t : T) (hn : n < v.n) (hp : p ≤ s.length) (ht : Sub (fun i => xs[i]?) (.times m M t) n) (hx : xs[n]? = some ⟨6, 0, 0, 0, 0, (q : Int), 0, m, M, 0⟩) (hbt : t.isBytes = none) (hG : FillC X v s B M2 J 153 n (.times m M t) p) : FillC X v s B M2 J 138 n (.times m M t) p := by
 have hir : isRunT (.times m M t) = false := by simp [isRunT, hbt]
 have HG := Lib.hid hG
 clear hG
 intro c had E es w fb f hcB hcnt hcap hJ hE hfb hrow
 have iv := jx.iv hJ
 have hk1 : ∀ S, Keeps S w (w.alloc (.cells (cH had) 27)) := fun S => (Keeps.refl S w).alloc _
 have iv1 := iv.keeps (hk1 _)
 have x0 := iv1.tr.c0
 have d := iv1.nodes.cell n _ hx
 have d0 : (w.alloc (.cells (cH had) 27)).cell? ⟨v.lb, v.lo + n * 10, none⟩ = some (.int .i64 6) := d 0 _ rfl
 have d1 : (w.alloc (.cells (cH had) 27)).cell? ⟨v.lb, v.lo + n * 10 + 1, none⟩ = some (.int .u64 0) := d 1 _ rfl
 have d2 : (w.alloc (.cells (cH had) 27)).cell? ⟨v.lb, v.lo + n * 10 + 2, none⟩ = some (.int .u64 0) := d 2 _ rfl
 have d3 : (w.alloc (.cells (cH had) 27)).cell? ⟨v.lb, v.lo + n * 10 + 3, none⟩ = some (.int .u64 0) := d 3 _ rfl
 have d4 : (w.alloc (.cells (cH had) 27)).cell? ⟨v.lb, v.lo + n * 10 + 4, none⟩ = some (.int .u64 0) := d 4 _ rfl
 have d5 : (w.alloc (.cells (cH had) 27)).cell? ⟨v.lb, v.lo + n * 10 + 5, none⟩ = some (.int .i64 (q : Int)) := d 5 _ rfl
 have d6 : (w.alloc (.cells (cH had) 27)).cell? ⟨v.lb, v.lo + n * 10 + 6, none⟩ = some (.int .i64 0) := d 6 _ rfl
 have d7 : (w.alloc (.cells (cH had) 27)).cell? ⟨v.lb, v.lo + n * 10 + 7, none⟩ = some (.int .i64 m) := d 7 _ rfl
 have d8 : (w.alloc (.cells (cH had) 27)).cell? ⟨v.lb, v.lo + n * 10 + 8, none⟩ = some (.int .i64 M) := d 8 _ rfl
 have d9 : (w.alloc (.cells (cH had) 27)).cell? ⟨v.lb, v.lo + n * 10 + 9, none⟩ = some (.int .i64 0) := d 9 _ rfl
 have hk2 : ∀ S, Keeps S w ((w.alloc (.cells (cH had) 27)).alloc (.cells (nA 6 0 0 0 0 (q : Int) 0 m M 0) 60)) := fun S => (hk1 S).alloc _
 have hb2 := (capBlk w had).alloc (.cells (nA 6 0 0 0 0 (q : Int) 0 m M 0) 60)
 have hrow2 := hrow.keeps (hk2 (fun _ => False)) id
 have hJ2 := jx.keeps hJ (hk2 _)
 have hE2 : ∀ b, E b → b < ((w.alloc (.cells (cH had) 27)).alloc (.cells (nA 6 0 0 0 0 (q : Int) 0 m M 0) 60)).heap.size := fun b hb => by
  have := hE b hb
  have := (hk2 (fun _ => False)).size
  omega
 have x01 := (iv.keeps (hk2 _)).tr.c0
 have hnM : ¬ Mt v fb ∧ ¬ M2 fb := ⟨fun e => by
  obtain ⟨o1, o2, o3, o4, o5, o6, o7⟩ := iv.out
  rcases e with e | e | e
  ·subst e; exact o4 (.inl hfb)
  ·subst e; exact o5 (.inl hfb)
  ·subst e; exact o6 (.inl hfb), fun e => (jx.lt hJ fb e).2 _ _ hrow⟩
 obtain ⟨k0, k1, k2, k3, k4, k5, k6, k7, k8, k9⟩ := capBlk.ten (w := ((w.alloc (.cells (cH had) 27)).alloc (.cells (nA 6 0 0 0 0 (q : Int) 0 m M 0) 60))) (b := w.heap.size) (had := had) hb2
 have hrun := isrun_c X n v s xs (.times m M t) ht fx.len fx.n2 ((w.alloc (.cells (cH had) 27)).alloc (.cells (nA 6 0 0 0 0 (q : Int) 0 m M 0) 60)) (iv.keeps (hk2 _)).tr (iv.keeps (hk2 _)).nodes
 rw [hir] at hrun
 have HRUN := Lib.hid hrun
 have HK2 := Lib.hid hk2
 have HIV := Lib.hid iv
 have HJ := Lib.hid hJ
 have HX := Lib.hid jx
 have HROW := Lib.hid hrow
 have HE := Lib.hid hE
 have hXb : X ≠ fb := fun e => iv.out.1 (.inl (e ▸ hfb))
 have hlb : v.lb ≠ fb := fun e => iv.out.2.1 (.inl (e ▸ hfb))
 have HB2 := Lib.hid (And.intro hb2 (And.intro hcap hcnt))
 have hn5 : Blk ((w.alloc (.cells (cH had) 27)).alloc (.cells (nA 6 0 0 0 0 (q : Int) 0 m M 0) 60)) (w.heap.size + 1) (nA 6 0 0 0 0 (q : Int) 0 m M 0) 60 := by
  have := Blk.new (w.alloc (.cells (cH had) 27)) (nA 6 0 0 0 0 (q : Int) 0 m M 0) 60
  rw [World.size_alloc] at this
  exact this
 have HN5 := Lib.hid hn5
 clear hrun hk2 hx hnM hn5
 clear d x01 hrow2 hJ2 hE2 hk1 hb2 iv iv1 hJ hE hrow hcap hcnt jx
 unfold capV PV
 go_enter Tryz.func138, Tryz.ntmps138
 go_wp2_with fail
 refine HRUN.out.mono ?_
 rintro e w3 ⟨rfl, hB3⟩
 have hk3 : ∀ S, Keeps S w w3 := fun S => (HK2.out S).trans (Keeps.of_below hB3)
 have n53 := HN5.out.below hB3 HN5.out.lt
 have hb3 := HB2.out.1.below hB3 HB2.out.1.lt
 clear k0 k1 k2 k3 k4 k5 k6 k7 k8 k9 HRUN
 obtain ⟨k0, k1, k2, k3, k4, k5, k6, k7, k8, k9⟩ := capBlk.ten (w := w3) (b := w.heap.size) (had := had) hb3
 have hsz := (hk3 (fun _ => False)).size
 have hcall := HG.out c had E es w3 fb f hcB HB2.out.2.2 HB2.out.2.1 (HX.out.keeps HJ.out (hk3 _)) (fun b hb => Nat.lt_of_lt_of_le (HE.out b hb) hsz) hfb (HROW.out.keeps (hk3 (fun _ => False)) id)
 unfold PV capV at hcall
 have HCALL := Lib.hid hcall
 have HK3 := Lib.hid hk3
 clear hcall hk3 hb3 n53 hB3
 go_wp2_with fail
 refine HCALL.out.mono ?_
 rintro e w4 ⟨fs, rfl, hrow4, hpre, hJ4, hk4⟩
 go_wp2
 first | go_end0 | refine bodyPost_ret (results_none rfl _ _ _) rfl ?_
 exact ⟨fs, rfl, hrow4, hpre, hJ4, (HK3.out _).trans hk4⟩
end
end Go.Proofs.YtgllmhheahlpjaaGreatDoor
namespace Go.Proofs.YtgllmhheahlpjaaGreatDoor
open Go.RowKit Go.Maps Go.WideMaps
theorem any_step {k0 k n : Nat} {F : Nat → Bool} (h0 : k0 ≤ k) (hk : k ≤ n) (h : ∀ i, k0 ≤ i → i < k → F i = false) : anyR k0 n F = (F k || anyR (k + 1) n F) := by
 rw [Bool.eq_iff_iff, Bool.or_eq_true, anyR_iff, anyR_iff]
 constructor
 ·rintro ⟨i, a, b, c⟩
  rcases Nat.lt_trichotomy i k with e | e | e
  ·rw [h i a e] at c; cases c
  ·subst e; exact .inl c
  ·exact .inr ⟨i, e, b, c⟩
 ·rintro (c | ⟨i, a, b, c⟩)
  ·exact ⟨k, h0, hk, c⟩
  ·exact ⟨i, by omega, b, c⟩
def msr (n : Nat) (r : Int) : Nat := if r < 0 then 0 else n + 1 - r.toNat
theorem msr_lt {n k : Nat} {r : Int} (hk : k ≤ n) (h : r = -1 ∨ (k : Int) + 1 ≤ r) : msr n r < msr n (k : Int) := by
 unfold msr
 rw [if_neg (show ¬ (k : Int) < 0 by omega)]
 split <;> omega
theorem any_none {k0 n : Nat} {F : Nat → Bool} (h : ∀ i, k0 ≤ i → F i = false) : anyR k0 n F = false := by
 rw [Bool.eq_false_iff]
 intro e
 obtain ⟨i, a, b, c⟩ := anyR_iff.1 e
 rw [h i a] at c; cases c
section
variable {X : Nat} {v : TrV} {s : List UInt8} {xs : List Nd} {B : Nat} {c1 : Lit → Nat} {n1 : Nat} {P1 : Lit → Prop} {c2 : Lit → Nat} {n2 : Nat} {M2 : Nat → Prop} {J : (Nat → Prop) → List Lit → World → Prop}
theorem reach_cat (jx : JX X v s xs B c1 n1 P1 c2 n2 M2 J) (fx : Fx v s xs B P1) (n p pa pb : Nat) (ta tb : T) (hn : n < v.n) (hp : p ≤ s.length) (hx : xs[n]? = some ⟨4, 0, 0, 0, 0, (pa : Int), (pb : Int), 0, 0, 0⟩) (ha0 : CntOk ta 0) (hb0 : CntOk tb 0) (hSA : SOk s.length (semT s ta))
  (hA : EndsC X v s B M2 J pa ta p) (hG : ∀ k, p ≤ k → k ≤ s.length → GoC X v s B M2 J pb tb k)
  (hLv : ∀ (had : Cp) (E : Nat → Prop) (es : List Lit) (w : World), CapOk s.length had → J E es w → (∀ b, E b → b < w.heap.size) → Calls Tryz.prog 150 #[.pointer (some ⟨X, 0, none⟩), .int .i64 pa, .int .i64 pb, .int .i64 p, capV had] w fun e w' => ∃ (K : FuncId) (cap : Array Value), e = .returned (.func (.func K) #[] cap) ∧ (∀ S, Keeps S w w') ∧ ∀ k, p ≤ k → k ≤ s.length → LeftC v M2 J K cap k (leftS (semT s ta) (semT s tb).asked p had k) E es w') : FillC X v s B M2 J 138 n (.two 4 ta tb) p := by
 have hB0 := fx.B1
 have hsl := fx.sl
 intro c had E es w fb f hcB hcnt hcap hJ hE hfb hrow
 have iv := jx.iv hJ
 have hk1 : ∀ S, Keeps S w (w.alloc (.cells (cH had) 27)) := fun S => (Keeps.refl S w).alloc _
 have iv1 := iv.keeps (hk1 _)
 have x0 := iv1.tr.c0
 have d := iv1.nodes.cell n _ hx
 have d0 : (w.alloc (.cells (cH had) 27)).cell? ⟨v.lb, v.lo + n * 10, none⟩ = some (.int .i64 4) := d 0 _ rfl
 have d1 : (w.alloc (.cells (cH had) 27)).cell? ⟨v.lb, v.lo + n * 10 + 1, none⟩ = some (.int .u64 0) := d 1 _ rfl
 have d2 : (w.alloc (.cells (cH had) 27)).cell? ⟨v.lb, v.lo + n * 10 + 2, none⟩ = some (.int .u64 0) := d 2 _ rfl
 have d3 : (w.alloc (.cells (cH had) 27)).cell? ⟨v.lb, v.lo + n * 10 + 3, none⟩ = some (.int .u64 0) := d 3 _ rfl
 have d4 : (w.alloc (.cells (cH had) 27)).cell? ⟨v.lb, v.lo + n * 10 + 4, none⟩ = some (.int .u64 0) := d 4 _ rfl
 have d5 : (w.alloc (.cells (cH had) 27)).cell? ⟨v.lb, v.lo + n * 10 + 5, none⟩ = some (.int .i64 (pa : Int)) := d 5 _ rfl
 have d6 : (w.alloc (.cells (cH had) 27)).cell? ⟨v.lb, v.lo + n * 10 + 6, none⟩ = some (.int .i64 (pb : Int)) := d 6 _ rfl
 have d7 : (w.alloc (.cells (cH had) 27)).cell? ⟨v.lb, v.lo + n * 10 + 7, none⟩ = some (.int .i64 0) := d 7 _ rfl
 have d8 : (w.alloc (.cells (cH had) 27)).cell? ⟨v.lb, v.lo + n * 10 + 8, none⟩ = some (.int .i64 0) := d 8 _ rfl
 have d9 : (w.alloc (.cells (cH had) 27)).cell? ⟨v.lb, v.lo + n * 10 + 9, none⟩ = some (.int .i64 0) := d 9 _ rfl
 have hk2 : ∀ S, Keeps S w ((w.alloc (.cells (cH had) 27)).alloc (.cells (nA 4 0 0 0 0 (pa : Int) (pb : Int) 0 0 0) 60)) := fun S => (hk1 S).alloc _
 have hb2 := (capBlk w had).alloc (.cells (nA 4 0 0 0 0 (pa : Int) (pb : Int) 0 0 0) 60)
 have hrow2 := hrow.keeps (hk2 (fun _ => False)) id
 have hJ2 := jx.keeps hJ (hk2 _)
 have hE2 : ∀ b, E b → b < ((w.alloc (.cells (cH had) 27)).alloc (.cells (nA 4 0 0 0 0 (pa : Int) (pb : Int) 0 0 0) 60)).heap.size := fun b hb => by
  have := hE b hb
  have := (hk2 (fun _ => False)).size
  omega
 have x01 := (iv.keeps (hk2 _)).tr.c0
 have hnM : ¬ Mt v fb ∧ ¬ M2 fb := ⟨fun e => by
  obtain ⟨o1, o2, o3, o4, o5, o6, o7⟩ := iv.out
  rcases e with e | e | e
  ·subst e; exact o4 (.inl hfb)
  ·subst e; exact o5 (.inl hfb)
  ·subst e; exact o6 (.inl hfb), fun e => (jx.lt hJ fb e).2 _ _ hrow⟩
 obtain ⟨k0, k1, k2, k3, k4, k5, k6, k7, k8, k9⟩ := capBlk.ten (w := ((w.alloc (.cells (cH had) 27)).alloc (.cells (nA 4 0 0 0 0 (pa : Int) (pb : Int) 0 0 0) 60))) (b := w.heap.size) (had := had) hb2
 have hcall := hLv had E es _ hcap hJ2 hE2
 unfold capV at hcall
 have HCALL := Lib.hid hcall
 have HK2 := Lib.hid hk2
 have HB2 := Lib.hid (And.intro hb2 (And.intro hE2 (And.intro hcap hnM)))
 have HROW := Lib.hid hrow
 have HG := Lib.hid hG
 have HA := Lib.hid hA
 have HX := Lib.hid jx
 have HJ2 := Lib.hid hJ2
 have HSA := Lib.hid hSA
 have lfb := hrow.lt
 have lw := iv.lts
 have HM2 := Lib.hid (fun b hb => (jx.lt hJ b hb).1)
 have hn4 : Blk ((w.alloc (.cells (cH had) 27)).alloc (.cells (nA 4 0 0 0 0 (pa : Int) (pb : Int) 0 0 0) 60)) (w.heap.size + 1) (nA 4 0 0 0 0 (pa : Int) (pb : Int) 0 0 0) 60 := by
  have := Blk.new (w.alloc (.cells (cH had) 27)) (nA 4 0 0 0 0 (pa : Int) (pb : Int) 0 0 0) 60
  rw [World.size_alloc] at this
  exact this
 have HN4 := Lib.hid hn4
 clear hcall hk2 hA hG hLv hx hnM hn4 hSA
 clear d x01 hrow2 hJ2 hE2 hk1 hb2 iv iv1 hJ hE hrow hcap hcnt jx
 unfold capV PV
 go_enter Tryz.func138, Tryz.ntmps138
 go_wp2_with fail
 refine HCALL.out.mono ?_
 rintro e w3 ⟨K, cap, rfl, hk3, hLC⟩
 have hb3 := HB2.out.1.keeps (hk3 (fun _ => False)) id
 have n43 := HN4.out.keeps (hk3 (fun _ => False)) id
 have hsz3 := (hk3 (fun _ => False)).size
 have m5 : w3.cell? ⟨w.heap.size + 1, 5, none⟩ = some (.int .i64 (pa : Int)) := n43.cell 5
 clear k0 k1 k2 k3 k4 k5 k6 k7 k8 k9 HCALL
 obtain ⟨k0, k1, k2, k3, k4, k5, k6, k7, k8, k9⟩ := capBlk.ten (w := w3) (b := w.heap.size) (had := had) hb3
 have hcall := HA.out 0 had E es w3 (by omega) ha0 HB2.out.2.2.1 (HX.out.keeps HJ2.out (hk3 _)) (fun b hb => Nat.lt_of_lt_of_le (HB2.out.2.1 b hb) hsz3)
 unfold PV capV at hcall
 have HCALL := Lib.hid hcall
 have HK3 := Lib.hid hk3
 have HLC := Lib.hid hLC
 have HN43 := Lib.hid n43
 clear hcall hk3 hLC hb3 n43
 go_wp2_with fail
 refine HCALL.out.mono ?_
 rintro e w4 ⟨b, fs, rfl, hrow4, hbE, hb00, hbM2, hbM, hpre4, hJ4, hk4⟩
 have hff : ∀ i, 64 * (s.length / 64 + 1) ≤ i → (semT s ta).ends p 0 had i = false := fun i hi => by
  rw [Bool.eq_false_iff]
  intro e
  have := (HSA.out.le p 0 had i HB2.out.2.2.1 hp e).2
  omega
 have HFF := Lib.hid hff
 have hfrom := fun (q : Nat) (hq : q ≤ 1000000000) (W : World) (hT : TabAt 0 Lib.deBruijn64tab W) (h : PRow W b (s.length / 64 + 1) (fun j => (semT s ta).ends p 0 had j)) => from_m b (s.length / 64 + 1) (s.length / 64 + 1) q _ (by omega) hq HFF.out W hT h
 have HFR := Lib.hid hfrom
 have HFR0 := Lib.hid (hfrom p (by omega) w4 (HX.out.iv hJ4).tab hrow4)
 have HW4 := Lib.hid (And.intro hrow4 (And.intro hJ4 (And.intro hk4 (And.intro hpre4 hbE))))
 have HBM := Lib.hid (And.intro hbM2 hbM)
 have hrowf4 : PRow w4 fb (s.length / 64 + 1) f := (HROW.out.keeps ((HK2.out (fun _ => False)).trans (HK3.out _)) id).keeps hk4 (fun e => e.elim HB2.out.2.2.2.1 HB2.out.2.2.2.2)
 have HRF := Lib.hid hrowf4
 clear k0 k1 k2 k3 k4 k5 k6 k7 k8 k9 HCALL m5 hff hfrom hrow4 hJ4 hk4 hpre4 hrowf4
 go_wp2_with fail
 refine HFR0.out.mono ?_
 rintro e w5 ⟨⟨r, rfl, hr⟩, hw⟩
 subst hw
 have HR := Lib.hid hr
 clear hr HFR0
 go_wp2
 go_loopw [15] (fun kv wr => ∃ (r : Int) (k0 : Nat) (gs : List Lit) (g : Nat → Bool), kv = .int .i64 r ∧ p ≤ k0 ∧ IsFrom (fun j => (semT s ta).ends p 0 had j) k0 r ∧ fs <+: gs ∧ J E gs wr ∧ PRow wr fb (s.length / 64 + 1) g ∧ (∀ j, (g j || anyR k0 s.length (catK (semT s ta) (semT s tb) p j had)) = (f j || anyR p s.length (catK (semT s ta) (semT s tb) p j had))) ∧ Keeps (fun b => (Mt v b ∨ M2 b) ∨ b = fb) w5 wr) (fun kv _ => msr s.length (RowKit.intOf kv))
 case atStart => exact ⟨r, p, fs, f, rfl, Nat.le_refl _, HR.out, List.prefix_refl _, HW4.out.2.1, HRF.out, fun j => rfl, Keeps.refl _ _⟩
 case round =>
  obtain ⟨r2, k0, gs, g, rfl, hk0, hr2, hpre, hJr, hrow, hg, hK⟩ := hrel
  rcases hr2 with ⟨rfl, hno⟩ | ⟨k, rfl, hk1, hk2, hk3⟩
  ·have HALL := Lib.hid (And.intro hpre (And.intro hJr (And.intro hrow hK)))
   have HG2 := Lib.hid (And.intro hg hno)
   clear hpre hJr hrow hK hg hno
   go_wp2
   first | go_end0 | refine bodyPost_ret (results_none rfl _ _ _) rfl ?_
   first
   | refine ⟨gs, rfl, ?_, HW4.out.2.2.2.1.trans HALL.out.1, HALL.out.2.1, ((((HK2.out _).trans (HK3.out _)).trans (HW4.out.2.2.1.mono (fun i _ e => .inl e)))).trans HALL.out.2.2.2⟩
   | refine ⟨rfl, ?_, gs, HW4.out.2.2.2.1.trans HALL.out.1, HALL.out.2.1, ((((HK2.out _).trans (HK3.out _)).trans (HW4.out.2.2.1.mono (fun i _ e => .inl e)))).trans HALL.out.2.2.2⟩
   have e : g = (fun j => f j || (semT s (.two 4 ta tb)).ends p c had j) := by
    funext j
    have h1 := HG2.out.1 j
    rw [any_none (k0 := k0) (fun i hi => by unfold catK; rw [HG2.out.2 i hi]; rfl), Bool.or_false] at h1
    rw [h1]
    rfl
   rw [← e]
   exact HALL.out.2.2.1
  ·have hkl := (HSA.out.le p 0 had k HB2.out.2.2.1 hp hk2).2
   have hsz := hK.size
   have hsz4 := HW4.out.2.2.1.size
   have hsz3 := (HK3.out (fun _ => False)).size
   have hno : ∀ i, w.heap.size ≤ i → ¬ ((Mt v i ∨ M2 i) ∨ i = fb) := fun i hi e => by
    rcases e with (e | e) | e
    ·rcases e with e | e | e <;> omega
    ·have := HM2.out i e; omega
    ·omega
   have n4 := (HN43.out.keeps HW4.out.2.2.1 (fun e => hno _ (by omega) (.inl e))).keeps hK (hno _ (by omega))
   have m6 : wr.cell? ⟨w.heap.size + 1, 6, none⟩ = some (.int .i64 (pb : Int)) := n4.cell 6
   have hcall := HG.out k (by omega) hkl 0 (leftS (semT s ta) (semT s tb).asked p had k) E gs wr fb g K cap (by omega) hb0 (HSA.out.left_cap HB2.out.2.2.1 (by omega) hkl) hJr (fun b hb => by
    have := HB2.out.2.1 b hb
    omega) hfb hrow ((HLC.out k (by omega) hkl).mono (HW4.out.2.2.2.1.trans hpre) ((HW4.out.2.2.1.mono (fun i _ e => .inl e)).trans (hK.mono (fun i _ e => e.elim .inl (fun q => .inr (by subst q; exact hfb))))))
   unfold PV at hcall
   have HCALL := Lib.hid hcall
   have HALL := Lib.hid (And.intro hpre hK)
   have HG2 := Lib.hid (And.intro hg (And.intro hk2 hk3))
   clear hcall hpre hK hg hJr hrow hno n4 hk2 hk3
   go_wp2_with fail
   refine HCALL.out.mono ?_
   rintro e w6 ⟨hs, rfl, hrow6, hpre6, hJ6, hk6⟩
   have hbr : PRow w6 b (s.length / 64 + 1) (fun j => (semT s ta).ends p 0 had j) := (HW4.out.1.keeps HALL.out.2 (fun e => by
    rcases e with (e | e) | e
    ·exact HBM.out.2 e
    ·exact HBM.out.1 e
    ·exact HW4.out.2.2.2.2 (e ▸ hfb))).keeps hk6 (fun e => by
    rcases e with (e | e) | e
    ·exact HBM.out.2 e
    ·exact HBM.out.1 e
    ·exact HW4.out.2.2.2.2 (e ▸ hfb))
   have hfr := HFR.out (k + 1) (by omega) w6 (HX.out.iv hJ6).tab hbr
   rw [show ((k + 1 : Nat) : Int) = (k : Int) + 1 from by omega] at hfr
   have HFR2 := Lib.hid hfr
   have HEND := Lib.hid (And.intro hrow6 (And.intro hpre6 (And.intro hJ6 hk6)))
   clear hfr hbr hrow6 hpre6 hJ6 hk6 m6 HCALL
   go_wp2_with fail
   refine HFR2.out.mono ?_
   rintro e w7 ⟨⟨r3, rfl, hr3⟩, hw⟩
   subst hw
   have hr4 : r3 = -1 ∨ (k : Int) + 1 ≤ r3 := by
    rcases hr3 with ⟨e, _⟩ | ⟨k', e, h, _⟩
    ·exact .inl e
    ·exact .inr (by omega)
   have HR3 := Lib.hid hr3
   clear hr3 HFR2
   go_wp2
   go_roundw
   case rel =>
    refine ⟨r3, k + 1, hs, _, rfl, by omega, HR3.out, HALL.out.1.trans HEND.out.2.1, HEND.out.2.2.1, HEND.out.1, fun j => ?_, HALL.out.2.trans HEND.out.2.2.2⟩
    rw [← HG2.out.1 j, any_step hk1 hkl (fun i h1 h2 => by unfold catK; rw [HG2.out.2.2 i h1 h2]; rfl), Bool.or_assoc]
    congr 2
    unfold catK
    rw [HG2.out.2.1, Bool.true_and]
   case measure => exact msr_lt hkl hr4
end
end Go.Proofs.YtgllmhheahlpjaaGreatDoor
namespace Go.Proofs.YtgllmhheahlpjaaGreatDoor
open Go.RowKit Go.Maps Go.WideMaps
section
variable {X : Nat} {v : TrV} {s : List UInt8} {xs : List Nd} {B : Nat} {c1 : Lit → Nat} {n1 : Nat} {P1 : Lit → Prop} {c2 : Lit → Nat} {n2 : Nat} {M2 : Nat → Prop} {J : (Nat → Prop) → List Lit → World → Prop}
theorem reach_leaf (jx : JX X v s xs B c1 n1 P1 c2 n2 M2 J) (fx : Fx v s xs B P1) (n p : Nat) (x : Nd) (hn : n < v.n) (hp : p ≤ s.length) (ht : Sub (fun i => xs[i]?) (.leaf x) n) (hx : xs[n]? = some x) (hkd : x.kind = 0 ∨ x.kind = 1 ∨ x.kind = 2 ∨ x.kind = 3 ∨ x.kind = 8)
  (hlf : ∀ (had : Cp) (w : World), CapOk s.length had → TrAt w X v s → Calls Tryz.prog 155 #[.pointer (some ⟨X, 0, none⟩), ndV x, .int .i64 p, capV had] w (LeafOut (leafE s x p had) w)) : FillC X v s B M2 J 138 n (.leaf x) p := by
 have hsl := fx.sl
 have hSO := (fx.ok n _ hn ht).2.1
 have HSO := Lib.hid hSO
 have HEN := Lib.hid (fun (c : Nat) (had : Cp) j => (show (semT s (.leaf x)).ends p c had j = (match leafE s x p had with | some w => decide (j = p + w) | none => false) from by
  show (if x.kind = -1 then _ else _) = _
  rw [if_neg (by omega)]
  cases leafE s x p had <;> rfl))
 obtain ⟨LE, hLE⟩ : ∃ LE : Cp → Option Nat, LE = fun had => leafE s x p had := ⟨_, rfl⟩
 have HLF : Hid (∀ (had : Cp) (w : World), CapOk s.length had → TrAt w X v s → Calls Tryz.prog 155 #[.pointer (some ⟨X, 0, none⟩), ndV x, .int .i64 p, capV had] w (LeafOut (LE had) w)) := by rw [hLE]; exact Lib.hid hlf
 have HEN2 : Hid (∀ (c : Nat) (had : Cp) j, (semT s (.leaf x)).ends p c had j = (match LE had with | some w => decide (j = p + w) | none => false)) := by rw [hLE]; exact HEN
 clear hLE HEN hlf hSO
 obtain ⟨TT, hTT⟩ : ∃ TT : T, TT = .leaf x := ⟨_, rfl⟩
 rw [← hTT] at HEN2 HSO ⊢
 clear hTT ht
 obtain ⟨kd, u0, u1, u2, u3, xa, xb, m, M, xn⟩ := x
 simp only at hkd
 have z7 : (kd == 7) = false := by rw [beq_eq_false_iff_ne]; omega
 have z5 : (kd == 5) = false := by rw [beq_eq_false_iff_ne]; omega
 have z4 : (kd == 4) = false := by rw [beq_eq_false_iff_ne]; omega
 have z6 : (kd == 6) = false := by rw [beq_eq_false_iff_ne]; omega
 have z1 : (kd == -1) = false := by rw [beq_eq_false_iff_ne]; omega
 intro c had E es w fb f hcB hcnt hcap hJ hE hfb hrow
 have iv := jx.iv hJ
 have hk1 : ∀ S, Keeps S w (w.alloc (.cells (cH had) 27)) := fun S => (Keeps.refl S w).alloc _
 have iv1 := iv.keeps (hk1 _)
 have x0 := iv1.tr.c0
 have d := iv1.nodes.cell n _ hx
 have d0 : (w.alloc (.cells (cH had) 27)).cell? ⟨v.lb, v.lo + n * 10, none⟩ = some (.int .i64 kd) := d 0 _ rfl
 have d1 : (w.alloc (.cells (cH had) 27)).cell? ⟨v.lb, v.lo + n * 10 + 1, none⟩ = some (.int .u64 u0) := d 1 _ rfl
 have d2 : (w.alloc (.cells (cH had) 27)).cell? ⟨v.lb, v.lo + n * 10 + 2, none⟩ = some (.int .u64 u1) := d 2 _ rfl
 have d3 : (w.alloc (.cells (cH had) 27)).cell? ⟨v.lb, v.lo + n * 10 + 3, none⟩ = some (.int .u64 u2) := d 3 _ rfl
 have d4 : (w.alloc (.cells (cH had) 27)).cell? ⟨v.lb, v.lo + n * 10 + 4, none⟩ = some (.int .u64 u3) := d 4 _ rfl
 have d5 : (w.alloc (.cells (cH had) 27)).cell? ⟨v.lb, v.lo + n * 10 + 5, none⟩ = some (.int .i64 xa) := d 5 _ rfl
 have d6 : (w.alloc (.cells (cH had) 27)).cell? ⟨v.lb, v.lo + n * 10 + 6, none⟩ = some (.int .i64 xb) := d 6 _ rfl
 have d7 : (w.alloc (.cells (cH had) 27)).cell? ⟨v.lb, v.lo + n * 10 + 7, none⟩ = some (.int .i64 m) := d 7 _ rfl
 have d8 : (w.alloc (.cells (cH had) 27)).cell? ⟨v.lb, v.lo + n * 10 + 8, none⟩ = some (.int .i64 M) := d 8 _ rfl
 have d9 : (w.alloc (.cells (cH had) 27)).cell? ⟨v.lb, v.lo + n * 10 + 9, none⟩ = some (.int .i64 xn) := d 9 _ rfl
 have hk2 : ∀ S, Keeps S w ((w.alloc (.cells (cH had) 27)).alloc (.cells (nA kd u0 u1 u2 u3 xa xb m M xn) 60)) := fun S => (hk1 S).alloc _
 have hb2 := (capBlk w had).alloc (.cells (nA kd u0 u1 u2 u3 xa xb m M xn) 60)
 have hrow2 := hrow.keeps (hk2 (fun _ => False)) id
 have hJ2 := jx.keeps hJ (hk2 _)
 have hE2 : ∀ b, E b → b < ((w.alloc (.cells (cH had) 27)).alloc (.cells (nA kd u0 u1 u2 u3 xa xb m M xn) 60)).heap.size := fun b hb => by
  have := hE b hb
  have := (hk2 (fun _ => False)).size
  omega
 have x01 := (iv.keeps (hk2 _)).tr.c0
 have hnM : ¬ Mt v fb ∧ ¬ M2 fb := ⟨fun e => by
  obtain ⟨o1, o2, o3, o4, o5, o6, o7⟩ := iv.out
  rcases e with e | e | e
  ·subst e; exact o4 (.inl hfb)
  ·subst e; exact o5 (.inl hfb)
  ·subst e; exact o6 (.inl hfb), fun e => (jx.lt hJ fb e).2 _ _ hrow⟩
 obtain ⟨k0, k1, k2, k3, k4, k5, k6, k7, k8, k9⟩ := capBlk.ten (w := ((w.alloc (.cells (cH had) 27)).alloc (.cells (nA kd u0 u1 u2 u3 xa xb m M xn) 60))) (b := w.heap.size) (had := had) hb2
 have hcall := HLF.out had ((w.alloc (.cells (cH had) 27)).alloc (.cells (nA kd u0 u1 u2 u3 xa xb m M xn) 60)) hcap (iv.keeps (hk2 _)).tr
 unfold ndV capV at hcall
 have HCALL := Lib.hid hcall
 have HK2 := Lib.hid hk2
 have hn4 : Blk ((w.alloc (.cells (cH had) 27)).alloc (.cells (nA kd u0 u1 u2 u3 xa xb m M xn) 60)) (w.heap.size + 1) (nA kd u0 u1 u2 u3 xa xb m M xn) 60 := by
  have := Blk.new (w.alloc (.cells (cH had) 27)) (nA kd u0 u1 u2 u3 xa xb m M xn) 60
  rw [World.size_alloc] at this
  exact this
 have m0 : ((w.alloc (.cells (cH had) 27)).alloc (.cells (nA kd u0 u1 u2 u3 xa xb m M xn) 60)).cell? ⟨w.heap.size + 1, 0, none⟩ = some (.int .i64 kd) := hn4.cell 0
 have m1 : ((w.alloc (.cells (cH had) 27)).alloc (.cells (nA kd u0 u1 u2 u3 xa xb m M xn) 60)).cell? ⟨w.heap.size + 1, 1, none⟩ = some (.int .u64 u0) := hn4.cell 1
 have m2 : ((w.alloc (.cells (cH had) 27)).alloc (.cells (nA kd u0 u1 u2 u3 xa xb m M xn) 60)).cell? ⟨w.heap.size + 1, 2, none⟩ = some (.int .u64 u1) := hn4.cell 2
 have m3 : ((w.alloc (.cells (cH had) 27)).alloc (.cells (nA kd u0 u1 u2 u3 xa xb m M xn) 60)).cell? ⟨w.heap.size + 1, 3, none⟩ = some (.int .u64 u2) := hn4.cell 3
 have m4 : ((w.alloc (.cells (cH had) 27)).alloc (.cells (nA kd u0 u1 u2 u3 xa xb m M xn) 60)).cell? ⟨w.heap.size + 1, 4, none⟩ = some (.int .u64 u3) := hn4.cell 4
 have m5 : ((w.alloc (.cells (cH had) 27)).alloc (.cells (nA kd u0 u1 u2 u3 xa xb m M xn) 60)).cell? ⟨w.heap.size + 1, 5, none⟩ = some (.int .i64 xa) := hn4.cell 5
 have m6 : ((w.alloc (.cells (cH had) 27)).alloc (.cells (nA kd u0 u1 u2 u3 xa xb m M xn) 60)).cell? ⟨w.heap.size + 1, 6, none⟩ = some (.int .i64 xb) := hn4.cell 6
 have m7 : ((w.alloc (.cells (cH had) 27)).alloc (.cells (nA kd u0 u1 u2 u3 xa xb m M xn) 60)).cell? ⟨w.heap.size + 1, 7, none⟩ = some (.int .i64 m) := hn4.cell 7
 have m8 : ((w.alloc (.cells (cH had) 27)).alloc (.cells (nA kd u0 u1 u2 u3 xa xb m M xn) 60)).cell? ⟨w.heap.size + 1, 8, none⟩ = some (.int .i64 M) := hn4.cell 8
 have m9 : ((w.alloc (.cells (cH had) 27)).alloc (.cells (nA kd u0 u1 u2 u3 xa xb m M xn) 60)).cell? ⟨w.heap.size + 1, 9, none⟩ = some (.int .i64 xn) := hn4.cell 9
 have HX := Lib.hid jx
 have HJ := Lib.hid hJ
 have HROW2 := Lib.hid hrow2
 have HCAP := Lib.hid hcap
 clear hcall hk2 hx hnM hn4 HLF hkd
 clear d x01 hrow2 hJ2 hE2 hk1 hb2 iv iv1 hJ hE hrow hcap hcnt jx
 unfold capV PV
 go_enter Tryz.func138, Tryz.ntmps138
 go_wp2_with fail
 refine HCALL.out.mono ?_
 rintro e w3 ⟨⟨z, rfl, hz⟩, hB3⟩
 have hrow3 := HROW2.out.below hB3 HROW2.out.lt
 have hk3 : ∀ S, Keeps S w w3 := fun S => (HK2.out S).trans (Keeps.of_below hB3)
 have HZ := Lib.hid hz
 have HK3 := Lib.hid hk3
 clear HCALL hz hk3 hB3 m0 m1 m2 m3 m4 m5 m6 m7 m8 m9 k0 k1 k2 k3 k4 k5 k6 k7 k8 k9
 cases hLo : LE had with
 | none =>
  have HROW3 := Lib.hid hrow3
  clear hrow3
  go_wp2
  first | go_end0 | refine bodyPost_ret (results_none rfl _ _ _) rfl ?_
  first
  | refine ⟨es, rfl, ?_, List.prefix_refl _, HX.out.keeps HJ.out (HK3.out _), HK3.out _⟩
  | refine ⟨rfl, ?_, es, List.prefix_refl _, HX.out.keeps HJ.out (HK3.out _), HK3.out _⟩
  have e : f = (fun j => f j || (semT s TT).ends p c had j) := by
   funext j
   rw [HEN2.out, hLo, Bool.or_false]
  rw [← e]
  exact HROW3.out
 | some k =>
  obtain rfl := HZ.out k hLo
  have hle := (HSO.out.le p c had (p + k) HCAP.out hp (by rw [HEN2.out, hLo]; simp)).2
  have hput := put_m fb (s.length / 64 + 1) (s.length / 64 + 1) (p + k) f (by omega) (by omega) w3 hrow3
  rw [show ((p + k : Nat) : Int) = (p : Int) + (k : Int) from by omega] at hput
  have HPUT := Lib.hid hput
  have HROW4 := Lib.hid ((hrow3.put (p + k)).drew)
  clear hput hrow3
  go_wp2_with fail
  refine HPUT.out.mono ?_
  rintro e w4 ⟨rfl, hw4⟩
  have HW4 := Lib.hid hw4
  clear hw4
  go_wp2
  first | go_end0 | refine bodyPost_ret (results_none rfl _ _ _) rfl ?_
  have hK4 : Keeps (fun b => b = fb) w3 w4 := by rw [HW4.out]; exact put_keeps w3 fb _ _
  first
  | refine ⟨es, rfl, ?_, List.prefix_refl _, HX.out.keeps (HX.out.keeps HJ.out (HK3.out _)) (hK4.mono (fun i _ e => e ▸ hfb)), (HK3.out _).trans (hK4.mono (fun i _ e => .inr e))⟩
  | refine ⟨rfl, ?_, es, List.prefix_refl _, HX.out.keeps (HX.out.keeps HJ.out (HK3.out _)) (hK4.mono (fun i _ e => e ▸ hfb)), (HK3.out _).trans (hK4.mono (fun i _ e => .inr e))⟩
  have e : (fun i => f i || i == p + k) = (fun j => f j || (semT s TT).ends p c had j) := by
   funext j
   rw [HEN2.out, hLo]
   rfl
  rw [← e, HW4.out]
  exact HROW4.out
end
end Go.Proofs.YtgllmhheahlpjaaGreatDoor
