/- A trial: repeat. -/
import Derived.Test.YtgllmhheahlpjaaGreatDoorJMcO
set_option linter.unusedVariables false
set_option linter.unusedSimpArgs false
set_option maxRecDepth 100000
set_option maxHeartbeats 40000000
namespace Go.Proofs.YtgllmhheahlpjaaGreatDoor
open Go.RowKit Go.Maps Go.WideMaps
theorem cnt_bd {m M : Int} (h : isCnt m M = true) : (0 ≤ m ∧ m ≤ 255) ∧ (M = -1 ∨ M ≤ 255) ∧ (M = -1 ∨ 1 ≤ M) := by
 unfold isCnt at h
 split at h
 ·cases h
 ·have := of_decide_eq_true h
  omega
theorem rep_end {s : List UInt8} {A : Sem} {m M : Int} {a c j : Nat} {had : Cp} (h : ¬ a < j) : repW s A m M (j - a) a c had j = if (c : Int) < m then A.leave j j had else had := by
 cases hf : j - a with
 | zero => rw [repW]
 | succ f => omega
theorem rep_step {s : List UInt8} {A : Sem} {m M : Int} {a c j : Nat} {had : Cp} (h : a < j) : repW s A m M (j - a) a c had j = match greatest (a + 1) (agnK s A m M a c had j) j with | some k => repW s A m M (j - k) k (oneMore m M c) (A.leave a k had) j | none => if (c : Int) < m then A.leave j j had else had := by
 obtain ⟨f, hf⟩ : ∃ f, j - a = f + 1 := ⟨j - a - 1, by omega⟩
 rw [hf, repW, if_pos h]
 show (match greatest (a + 1) (agnK s A m M a c had j) j with | some k => repW s A m M f k (oneMore m M c) (A.leave a k had) j | none => _) = _
 cases hg : greatest (a + 1) (agnK s A m M a c had j) j with
 | none => rfl
 | some k =>
  have := greatest_some hg
  exact rep_fu f (j - k) k _ _ (by omega) (by omega)
theorem cnt_more {m M : Int} {u : T} {c : Nat} (hm : 0 ≤ m ∧ m ≤ 255) (hM : M = -1 ∨ M ≤ 255) (h : CntOk (.times m M u) c) (hcM : (c : Int) ≠ M) : oneMore m M c ≤ 255 ∧ CntOk (.times m M u) (oneMore m M c) := by
 unfold CntOk oneMore at *
 simp only at h ⊢
 by_cases hM1 : M = -1
 ·rw [if_pos hM1] at h
  rw [if_pos hM1, if_pos hM1]
  omega
 ·rw [if_neg hM1] at h
  rw [if_neg hM1, if_neg hM1]
  omega
theorem ne_of_agn {s : List UInt8} {A : Sem} {m M : Int} {a c j : Nat} {had : Cp} (hM : M = -1 ∨ 1 ≤ M) (h : a < j) (hj : j ≤ s.length) (hag : c = 0 ∨ agnE s A m M (s.length - a) a c had j = true) : (c : Int) ≠ M := by
 rcases hag with e | e
 ·subst e
  intro q
  rw [← q] at hM
  omega
 ·rw [agn_step (by omega)] at e
  intro q
  simp [q, show j ≠ a by omega] at e
theorem blk_store {w : World} {b : Nat} {V : Nat → Value} (h : VRow w b 10 27 V) (Z : Cp) : Blk ((((((((((w.setCell ⟨b, 0, none⟩ (spV (Z 0))).setCell ⟨b, 1, none⟩ (spV (Z 1))).setCell ⟨b, 2, none⟩ (spV (Z 2))).setCell ⟨b, 3, none⟩ (spV (Z 3))).setCell ⟨b, 4, none⟩ (spV (Z 4))).setCell ⟨b, 5, none⟩ (spV (Z 5))).setCell ⟨b, 6, none⟩ (spV (Z 6))).setCell ⟨b, 7, none⟩ (spV (Z 7))).setCell ⟨b, 8, none⟩ (spV (Z 8))).setCell ⟨b, 9, none⟩ (spV (Z 9))) b (cH Z) 27 := by
 have v0 := h.set 0 (spV (Z 0))
 have v1 := v0.set 1 (spV (Z 1))
 have v2 := v1.set 2 (spV (Z 2))
 have v3 := v2.set 3 (spV (Z 3))
 have v4 := v3.set 4 (spV (Z 4))
 have v5 := v4.set 5 (spV (Z 5))
 have v6 := v5.set 6 (spV (Z 6))
 have v7 := v6.set 7 (spV (Z 7))
 have v8 := v7.set 8 (spV (Z 8))
 have v9 := v8.set 9 (spV (Z 9))
 refine ⟨?_⟩
 rw [v9.heap]
 rfl
section
variable {X : Nat} {v : TrV} {s : List UInt8} {xs : List Nd} {B : Nat} {c1 : Lit → Nat} {n1 : Nat} {P1 : Lit → Prop} {c2 : Lit → Nat} {n2 : Nat} {M2 : Nat → Prop} {J : (Nat → Prop) → List Lit → World → Prop}
theorem rep_c (jx : JX X v s xs B c1 n1 P1 c2 n2 M2 J) (fx : Fx v s xs B P1) (n p j q : Nat) (m M : Int) (u : T) (hn : n < v.n) (hp : p ≤ j) (hj : j ≤ s.length) (hx : xs[n]? = some ⟨6, 0, 0, 0, 0, (q : Int), 0, m, M, 0⟩) (lq : q < v.n) (hc : isCnt m M = true) (hbt : u.isBytes = none) (ha0 : CntOk u 0) (hSA : SOk s.length (semT s u))
  (hEa : ∀ a, p ≤ a → a ≤ j → EndsC X v s B M2 J q u a) (hEn : ∀ k, p ≤ k → k ≤ j → EndsC X v s B M2 J n (.times m M u) k)
  (hLv : ∀ a, p ≤ a → a ≤ j → ∀ (had : Cp) (E : Nat → Prop) (es : List Lit) (w : World), CapOk s.length had → J E es w → (∀ b, E b → b < w.heap.size) → Calls Tryz.prog 150 #[.pointer (some ⟨X, 0, none⟩), .int .i64 q, .int .i64 n, .int .i64 a, capV had] w fun e w' => ∃ (K : FuncId) (cap : Array Value), e = .returned (.func (.func K) #[] cap) ∧ (∀ S, Keeps S w w') ∧ ∀ k, a ≤ k → k ≤ s.length → LeftC v M2 J K cap k (leftS (semT s u) (semT s u).asked a had k) E es w')
  (hLe : ∀ a b, p ≤ a → a ≤ b → b ≤ j → LeaveC X v s M2 J q u a b) : RepC X v s M2 J n (.times m M u) p j := by
 intro had E es w hcap hJ hE
 have hsl := fx.sl
 have hn2 := fx.n2
 have hB0 := fx.B1
 have iv := jx.iv hJ
 obtain ⟨lX, llb, lrb, lbn, lbr, lbl, lw⟩ := iv.lts
 have HM2 := Lib.hid (fun b hb => (jx.lt hJ b hb).1)
 have hk2 : ∀ S, Keeps S w ((w.alloc (.cells (cH had) 27)).alloc (.cells cZ 27)) := fun S => ((Keeps.refl S w).alloc _).alloc _
 have hk3 : ∀ S, Keeps S w (((w.alloc (.cells (cH had) 27)).alloc (.cells cZ 27)).alloc (.cells (nA 6 0 0 0 0 (q : Int) 0 m M 0) 60)) := fun S => (hk2 S).alloc _
 have iv2 := iv.keeps (hk2 _)
 have x0 := iv2.tr.c0
 have d := iv2.nodes.cell n _ hx
 have d0 : ((w.alloc (.cells (cH had) 27)).alloc (.cells cZ 27)).cell? ⟨v.lb, v.lo + n * 10, none⟩ = some (.int .i64 6) := d 0 _ rfl
 have d1 : ((w.alloc (.cells (cH had) 27)).alloc (.cells cZ 27)).cell? ⟨v.lb, v.lo + n * 10 + 1, none⟩ = some (.int .u64 0) := d 1 _ rfl
 have d2 : ((w.alloc (.cells (cH had) 27)).alloc (.cells cZ 27)).cell? ⟨v.lb, v.lo + n * 10 + 2, none⟩ = some (.int .u64 0) := d 2 _ rfl
 have d3 : ((w.alloc (.cells (cH had) 27)).alloc (.cells cZ 27)).cell? ⟨v.lb, v.lo + n * 10 + 3, none⟩ = some (.int .u64 0) := d 3 _ rfl
 have d4 : ((w.alloc (.cells (cH had) 27)).alloc (.cells cZ 27)).cell? ⟨v.lb, v.lo + n * 10 + 4, none⟩ = some (.int .u64 0) := d 4 _ rfl
 have d5 : ((w.alloc (.cells (cH had) 27)).alloc (.cells cZ 27)).cell? ⟨v.lb, v.lo + n * 10 + 5, none⟩ = some (.int .i64 (q : Int)) := d 5 _ rfl
 have d6 : ((w.alloc (.cells (cH had) 27)).alloc (.cells cZ 27)).cell? ⟨v.lb, v.lo + n * 10 + 6, none⟩ = some (.int .i64 0) := d 6 _ rfl
 have d7 : ((w.alloc (.cells (cH had) 27)).alloc (.cells cZ 27)).cell? ⟨v.lb, v.lo + n * 10 + 7, none⟩ = some (.int .i64 m) := d 7 _ rfl
 have d8 : ((w.alloc (.cells (cH had) 27)).alloc (.cells cZ 27)).cell? ⟨v.lb, v.lo + n * 10 + 8, none⟩ = some (.int .i64 M) := d 8 _ rfl
 have d9 : ((w.alloc (.cells (cH had) 27)).alloc (.cells cZ 27)).cell? ⟨v.lb, v.lo + n * 10 + 9, none⟩ = some (.int .i64 0) := d 9 _ rfl
 have hb3 := ((capBlk w had).alloc (.cells cZ 27)).alloc (.cells (nA 6 0 0 0 0 (q : Int) 0 m M 0) 60)
 have hs3 : (((w.alloc (.cells (cH had) 27)).alloc (.cells cZ 27)).alloc (.cells (nA 6 0 0 0 0 (q : Int) 0 m M 0) 60)).heap.size = w.heap.size + 3 := by simp
 obtain ⟨k0, k1, k2, k3, k4, k5, k6, k7, k8, k9⟩ := capBlk.ten (w := (((w.alloc (.cells (cH had) 27)).alloc (.cells cZ 27)).alloc (.cells (nA 6 0 0 0 0 (q : Int) 0 m M 0) 60))) (b := w.heap.size) (had := had) hb3
 have hr3 : VRow (((w.alloc (.cells (cH had) 27)).alloc (.cells cZ 27)).alloc (.cells (nA 6 0 0 0 0 (q : Int) 0 m M 0) 60)) (w.heap.size + 1) 10 27 (fun _ => .complex .f64 0 0) := by
  have := VRow.new (w.alloc (.cells (cH had) 27)) 10 27 (fun _ => .complex .f64 0 0)
  rw [World.size_alloc] at this
  exact ⟨heap_alloc _ this.heap⟩
 have hn3 : Blk (((w.alloc (.cells (cH had) 27)).alloc (.cells cZ 27)).alloc (.cells (nA 6 0 0 0 0 (q : Int) 0 m M 0) 60)) (w.heap.size + 2) (nA 6 0 0 0 0 (q : Int) 0 m M 0) 60 := by
  have := Blk.new ((w.alloc (.cells (cH had) 27)).alloc (.cells cZ 27)) (nA 6 0 0 0 0 (q : Int) 0 m M 0) 60
  rw [World.size_alloc, World.size_alloc] at this
  exact this
 have hJ3 : J (fun b => E b ∨ (w.heap.size ≤ b ∧ b < w.heap.size + 3)) es (((w.alloc (.cells (cH had) 27)).alloc (.cells cZ 27)).alloc (.cells (nA 6 0 0 0 0 (q : Int) 0 m M 0) 60)) := jx.mono (jx.keeps (jx.fresh hJ) (hk3 _)) (fun b hb => hb.imp id (fun e => e.1))
 have hE3 : ∀ b, (E b ∨ (w.heap.size ≤ b ∧ b < w.heap.size + 3)) → b < (((w.alloc (.cells (cH had) 27)).alloc (.cells cZ 27)).alloc (.cells (nA 6 0 0 0 0 (q : Int) 0 m M 0) 60)).heap.size := fun b hb => by
  rw [hs3]
  rcases hb with hb | hb
  ·have := hE b hb; omega
  ·omega
 have hno : ∀ b, w.heap.size ≤ b → ¬ (Mt v b ∨ M2 b) := fun b hb e => by
  rcases e with e | e
  ·rcases e with e | e | e <;> omega
  ·have := HM2.out b e; omega
 have HX := Lib.hid jx
 have HE := Lib.hid hE
 have HCAP := Lib.hid hcap
 have HK3 := Lib.hid hk3
 have HB3 := Lib.hid (And.intro hb3 (And.intro hr3 hn3))
 have HJ3 := Lib.hid (And.intro hJ3 hE3)
 have HNO := Lib.hid hno
 have hB3 := fx.B3
 obtain ⟨hm, hMx, hMn⟩ := cnt_bd hc
 have hcn0 : CntOk (.times m M u) 0 := by
  unfold CntOk
  simp only
  split <;> omega
 have HEN := Lib.hid (fun (k c : Nat) (hd : Cp) (i : Nat) => (show (semT s (.times m M u)).ends k c hd i = agnE s (semT s u) m M (s.length - k) k c hd i from by simp only [semT, timesS, hbt]))
 have HWALK : Hid ((semT s (.times m M u)).walk p j had = repW s (semT s u) m M (j - p) p 0 had j) := Lib.hid rfl
 have HEA := Lib.hid hEa
 have HENC := Lib.hid hEn
 have HLV := Lib.hid hLv
 have HLE := Lib.hid hLe
 have HSA := Lib.hid hSA
 have HA0 := Lib.hid (And.intro ha0 (And.intro hcn0 (And.intro hMx hMn)))
 clear hEa hEn hLv hLe hSA hc hbt hx ha0 hcn0 hMx hMn
 clear d hk2 hk3 iv iv2 hb3 hr3 hn3 hJ hJ3 hE hE3 hcap hno jx hs3
 unfold capV
 go_enter Tryz.func133, Tryz.ntmps133
 go_wp2
 go_step3
 go_wp2
 go_step3
 go_wp2
 clear k0 k1 k2 k3 k4 k5 k6 k7 k8 k9
 go_loopg [2, 12] (j - p) (fun g av cv wr => ∃ (a c : Nat) (h1 : Cp) (gs : List Lit), av = .int .i64 a ∧ cv = .int .i64 c ∧ g = j - a ∧ p ≤ a ∧ a ≤ j ∧ CapOk s.length h1 ∧ c ≤ 255 ∧ CntOk (.times m M u) c ∧ (c = 0 ∨ agnE s (semT s u) m M (s.length - a) a c h1 j = true) ∧ repW s (semT s u) m M (j - p) p 0 had j = repW s (semT s u) m M (j - a) a c h1 j ∧ es <+: gs ∧ J (fun b => E b ∨ (w.heap.size ≤ b ∧ b < w.heap.size + 3)) gs wr ∧ Blk wr w.heap.size (cH h1) 27 ∧ VRow wr (w.heap.size + 1) 10 27 (fun _ => .complex .f64 0 0) ∧ Blk wr (w.heap.size + 2) (nA 6 0 0 0 0 (q : Int) 0 m M 0) 60 ∧ Keeps (fun b => (Mt v b ∨ M2 b) ∨ b = w.heap.size) (((w.alloc (.cells (cH had) 27)).alloc (.cells cZ 27)).alloc (.cells (nA 6 0 0 0 0 (q : Int) 0 m M 0) 60)) wr)
 case atStart => exact ⟨p, 0, had, es, rfl, rfl, rfl, Nat.le_refl _, hp, HCAP.out, by omega, HA0.out.2.1, .inl rfl, rfl, List.prefix_refl _, HJ3.out.1, HB3.out.1, HB3.out.2.1, HB3.out.2.2, Keeps.refl _ _⟩
 case round =>
  obtain ⟨a, c, h1, gs, rfl, rfl, hg, hpa, haj, hc1, hc255, hcn, hag, hrw, hpre, hJr, hBr, hRr, hNr, hK⟩ := hrel
  obtain ⟨ga, rfl⟩ : ∃ x, x = gk := ⟨_, rfl⟩
  obtain ⟨wa, rfl⟩ : ∃ x, x = wr := ⟨_, rfl⟩
  have lr : w.heap.size + 3 ≤ wa.heap.size := by have := hK.size; simp at this; omega
  have hEr : ∀ b, (E b ∨ (w.heap.size ≤ b ∧ b < w.heap.size + 3)) → b < wa.heap.size := fun b hb => Nat.lt_of_lt_of_le (HJ3.out.2 b hb) hK.size
  have hkall : Keeps (fun b => Mt v b ∨ M2 b) w wa := (HK3.out _).trans2 hK (fun i hi e => e.elim id (fun e => absurd e (by omega)))
  have k0 : wa.cell? ⟨w.heap.size, 0, none⟩ = some (spV (h1 0)) := capBlk.at (had := h1) hBr 0 (by decide)
  have k1 : wa.cell? ⟨w.heap.size, 1, none⟩ = some (spV (h1 1)) := capBlk.at (had := h1) hBr 1 (by decide)
  have k2 : wa.cell? ⟨w.heap.size, 2, none⟩ = some (spV (h1 2)) := capBlk.at (had := h1) hBr 2 (by decide)
  have k3 : wa.cell? ⟨w.heap.size, 3, none⟩ = some (spV (h1 3)) := capBlk.at (had := h1) hBr 3 (by decide)
  have k4 : wa.cell? ⟨w.heap.size, 4, none⟩ = some (spV (h1 4)) := capBlk.at (had := h1) hBr 4 (by decide)
  have k5 : wa.cell? ⟨w.heap.size, 5, none⟩ = some (spV (h1 5)) := capBlk.at (had := h1) hBr 5 (by decide)
  have k6 : wa.cell? ⟨w.heap.size, 6, none⟩ = some (spV (h1 6)) := capBlk.at (had := h1) hBr 6 (by decide)
  have k7 : wa.cell? ⟨w.heap.size, 7, none⟩ = some (spV (h1 7)) := capBlk.at (had := h1) hBr 7 (by decide)
  have k8 : wa.cell? ⟨w.heap.size, 8, none⟩ = some (spV (h1 8)) := capBlk.at (had := h1) hBr 8 (by decide)
  have k9 : wa.cell? ⟨w.heap.size, 9, none⟩ = some (spV (h1 9)) := capBlk.at (had := h1) hBr 9 (by decide)
  have m0 : wa.cell? ⟨w.heap.size + 2, 0, none⟩ = some (.int .i64 6) := hNr.cell 0
  have m1 : wa.cell? ⟨w.heap.size + 2, 1, none⟩ = some (.int .u64 0) := hNr.cell 1
  have m2 : wa.cell? ⟨w.heap.size + 2, 2, none⟩ = some (.int .u64 0) := hNr.cell 2
  have m3 : wa.cell? ⟨w.heap.size + 2, 3, none⟩ = some (.int .u64 0) := hNr.cell 3
  have m4 : wa.cell? ⟨w.heap.size + 2, 4, none⟩ = some (.int .u64 0) := hNr.cell 4
  have m5 : wa.cell? ⟨w.heap.size + 2, 5, none⟩ = some (.int .i64 (q : Int)) := hNr.cell 5
  have m6 : wa.cell? ⟨w.heap.size + 2, 6, none⟩ = some (.int .i64 0) := hNr.cell 6
  have m7 : wa.cell? ⟨w.heap.size + 2, 7, none⟩ = some (.int .i64 m) := hNr.cell 7
  have m8 : wa.cell? ⟨w.heap.size + 2, 8, none⟩ = some (.int .i64 M) := hNr.cell 8
  have m9 : wa.cell? ⟨w.heap.size + 2, 9, none⟩ = some (.int .i64 0) := hNr.cell 9
  by_cases hlt : a < j
  ·have hltI : (a : Int) < (j : Int) := by omega
   have hcall := HLV.out a hpa haj h1 _ gs wa hc1 hJr hEr
   unfold capV at hcall
   have HCALL := Lib.hid hcall
   have H1 := Lib.hid (And.intro hpre (And.intro hBr (And.intro hRr (And.intro hNr (And.intro hkall (And.intro hEr (And.intro hK hJr)))))))
   have HREL := Lib.hid (And.intro hcn (And.intro hag (And.intro hrw hg)))
   have hcM := ne_of_agn HA0.out.2.2.2 hlt hj hag
   have HCC := Lib.hid (cnt_more hm HA0.out.2.2.1 hcn hcM)
   clear hcall hpre hBr hRr hNr hkall hEr hK hcn hag hrw hg hJr hcM
   go_wp2_with fail
   refine HCALL.out.mono ?_
   rintro e w4 ⟨K, cap, rfl, hk4, hLC⟩
   have hb4 := H1.out.2.1.keeps (hk4 (fun _ => False)) id
   have hn4 := H1.out.2.2.2.1.keeps (hk4 (fun _ => False)) id
   have hr4 : VRow w4 (w.heap.size + 1) 10 27 (fun _ => .complex .f64 0 0) := ⟨((hk4 (fun _ => False)).block _ H1.out.2.2.1.lt id).trans H1.out.2.2.1.heap⟩
   clear k0 k1 k2 k3 k4 k5 k6 k7 k8 k9 m0 m1 m2 m3 m4 m5 m6 m7 m8 m9 HCALL
   have m5 : w4.cell? ⟨w.heap.size + 2, 5, none⟩ = some (.int .i64 (q : Int)) := hn4.cell 5
   have l4 : w.heap.size + 3 ≤ w4.heap.size := by have := (hk4 (fun _ => False)).size; omega
   have k0 : w4.cell? ⟨w.heap.size, 0, none⟩ = some (spV (h1 0)) := capBlk.at (had := h1) hb4 0 (by decide)
   have k1 : w4.cell? ⟨w.heap.size, 1, none⟩ = some (spV (h1 1)) := capBlk.at (had := h1) hb4 1 (by decide)
   have k2 : w4.cell? ⟨w.heap.size, 2, none⟩ = some (spV (h1 2)) := capBlk.at (had := h1) hb4 2 (by decide)
   have k3 : w4.cell? ⟨w.heap.size, 3, none⟩ = some (spV (h1 3)) := capBlk.at (had := h1) hb4 3 (by decide)
   have k4 : w4.cell? ⟨w.heap.size, 4, none⟩ = some (spV (h1 4)) := capBlk.at (had := h1) hb4 4 (by decide)
   have k5 : w4.cell? ⟨w.heap.size, 5, none⟩ = some (spV (h1 5)) := capBlk.at (had := h1) hb4 5 (by decide)
   have k6 : w4.cell? ⟨w.heap.size, 6, none⟩ = some (spV (h1 6)) := capBlk.at (had := h1) hb4 6 (by decide)
   have k7 : w4.cell? ⟨w.heap.size, 7, none⟩ = some (spV (h1 7)) := capBlk.at (had := h1) hb4 7 (by decide)
   have k8 : w4.cell? ⟨w.heap.size, 8, none⟩ = some (spV (h1 8)) := capBlk.at (had := h1) hb4 8 (by decide)
   have k9 : w4.cell? ⟨w.heap.size, 9, none⟩ = some (spV (h1 9)) := capBlk.at (had := h1) hb4 9 (by decide)
   have hJ4 := HX.out.keeps H1.out.2.2.2.2.2.2.2 (hk4 _)
   have hE4 : ∀ b, (E b ∨ (w.heap.size ≤ b ∧ b < w.heap.size + 3)) → b < w4.heap.size := fun b hb => Nat.lt_of_lt_of_le (H1.out.2.2.2.2.2.1 b hb) (hk4 (fun _ => False)).size
   have hcall := HEA.out a hpa haj 0 h1 _ gs w4 (by omega) HA0.out.1 hc1 hJ4 hE4
   unfold capV PV at hcall
   have HCALL := Lib.hid hcall
   have H4 := Lib.hid (And.intro hb4 (And.intro hn4 (And.intro hr4 (And.intro hE4 (H1.out.2.2.2.2.1.trans (hk4 (fun b => Mt v b ∨ M2 b)))))))
   have HLC := Lib.hid hLC
   have HK4 := Lib.hid hk4
   clear hcall hb4 hn4 hr4 hJ4 hE4 hk4 hLC
   go_wp2_with fail
   refine HCALL.out.mono ?_
   rintro e w5 ⟨b, fs, rfl, hrow5, hbE, hb00, hbM2, hbM, hpre5, hJ5, hk5⟩
   have HUP := Lib.hid (fun (q : Nat) (hq : q ≤ s.length) (W : World) (h : PRow W b (s.length / 64 + 1) (fun i => (semT s u).ends a 0 h1 i)) => upto_m b (s.length / 64 + 1) (s.length / 64 + 1) q _ (by omega) (by omega) W h)
   have hup := HUP.out j hj w5 hrow5
   have HUP0 := Lib.hid hup
   have l5 : w.heap.size + 3 ≤ w5.heap.size := by have := hk5.size; omega
   have H5 := Lib.hid (And.intro hrow5 (And.intro hJ5 (And.intro hk5 hpre5)))
   have HBM : Hid (¬ (Mt v b ∨ M2 b)) := Lib.hid (fun e => e.elim hbM hbM2)
   clear hup hrow5 hJ5 hk5 hpre5 hbM hbM2 hbE m5 k0 k1 k2 k3 k4 k5 k6 k7 k8 k9 HCALL
   go_wp2_with fail
   refine HUP0.out.mono ?_
   rintro e w6 ⟨⟨r, rfl, hr⟩, rfl⟩
   have HR := Lib.hid hr
   clear hr HUP0
   go_wp2
   go_loopg [2, 12, 15] ((r + 1).toNat) (fun g av cv kv wr => ∃ (r2 q2 : Int) (gz : List Lit), av = .int .i64 a ∧ cv = .int .i64 c ∧ kv = .int .i64 r2 ∧ g = (r2 + 1).toNat ∧ q2 ≤ j ∧ IsTo (fun i => (semT s u).ends a 0 h1 i) q2 r2 ∧ (∀ k : Nat, q2 < (k : Int) → k ≤ j → agnK s (semT s u) m M a c h1 j k = false) ∧ fs <+: gz ∧ J (fun b => E b ∨ (w.heap.size ≤ b ∧ b < w.heap.size + 3)) gz wr ∧ Keeps (fun b => Mt v b ∨ M2 b) w6 wr)
   case atStart => exact ⟨r, j, fs, rfl, rfl, rfl, rfl, Int.le_refl _, HR.out, fun k h1 h2 => by omega, List.prefix_refl _, H5.out.2.1, Keeps.refl _ _⟩
   case round =>
    obtain ⟨r2, q2, gz, rfl, rfl, rfl, hg2, hqj, hr2, hno2, hpre, hJr, hK⟩ := hrel
    have hkr : Keeps (fun b => Mt v b ∨ M2 b) w4 wr := H5.out.2.2.1.trans hK
    have lw4 : w4.heap.size ≤ wr.heap.size := hkr.size
    have br := H4.out.1.keeps hkr (HNO.out _ (by omega))
    have nr := H4.out.2.1.keeps hkr (HNO.out _ (by omega))
    have rr : VRow wr (w.heap.size + 1) 10 27 (fun _ => .complex .f64 0 0) := ⟨(hkr.block _ H4.out.2.2.1.lt (HNO.out _ (by omega))).trans H4.out.2.2.1.heap⟩
    have hrowr : PRow wr b (s.length / 64 + 1) (fun i => (semT s u).ends a 0 h1 i) := H5.out.1.keeps hK HBM.out
    have hEr : ∀ b, (E b ∨ (w.heap.size ≤ b ∧ b < w.heap.size + 3)) → b < wr.heap.size := fun b hb => Nat.lt_of_lt_of_le (H4.out.2.2.2.1 b hb) hkr.size
    have hpr := (H1.out.1.trans H5.out.2.2.2).trans hpre
    have hkall := H4.out.2.2.2.2.trans hkr
    have k0 : wr.cell? ⟨w.heap.size, 0, none⟩ = some (spV (h1 0)) := capBlk.at (had := h1) br 0 (by decide)
    have k1 : wr.cell? ⟨w.heap.size, 1, none⟩ = some (spV (h1 1)) := capBlk.at (had := h1) br 1 (by decide)
    have k2 : wr.cell? ⟨w.heap.size, 2, none⟩ = some (spV (h1 2)) := capBlk.at (had := h1) br 2 (by decide)
    have k3 : wr.cell? ⟨w.heap.size, 3, none⟩ = some (spV (h1 3)) := capBlk.at (had := h1) br 3 (by decide)
    have k4 : wr.cell? ⟨w.heap.size, 4, none⟩ = some (spV (h1 4)) := capBlk.at (had := h1) br 4 (by decide)
    have k5 : wr.cell? ⟨w.heap.size, 5, none⟩ = some (spV (h1 5)) := capBlk.at (had := h1) br 5 (by decide)
    have k6 : wr.cell? ⟨w.heap.size, 6, none⟩ = some (spV (h1 6)) := capBlk.at (had := h1) br 6 (by decide)
    have k7 : wr.cell? ⟨w.heap.size, 7, none⟩ = some (spV (h1 7)) := capBlk.at (had := h1) br 7 (by decide)
    have k8 : wr.cell? ⟨w.heap.size, 8, none⟩ = some (spV (h1 8)) := capBlk.at (had := h1) br 8 (by decide)
    have k9 : wr.cell? ⟨w.heap.size, 9, none⟩ = some (spV (h1 9)) := capBlk.at (had := h1) br 9 (by decide)
    have m0 : wr.cell? ⟨w.heap.size + 2, 0, none⟩ = some (.int .i64 6) := nr.cell 0
    have m1 : wr.cell? ⟨w.heap.size + 2, 1, none⟩ = some (.int .u64 0) := nr.cell 1
    have m2 : wr.cell? ⟨w.heap.size + 2, 2, none⟩ = some (.int .u64 0) := nr.cell 2
    have m3 : wr.cell? ⟨w.heap.size + 2, 3, none⟩ = some (.int .u64 0) := nr.cell 3
    have m4 : wr.cell? ⟨w.heap.size + 2, 4, none⟩ = some (.int .u64 0) := nr.cell 4
    have m5 : wr.cell? ⟨w.heap.size + 2, 5, none⟩ = some (.int .i64 (q : Int)) := nr.cell 5
    have m6 : wr.cell? ⟨w.heap.size + 2, 6, none⟩ = some (.int .i64 0) := nr.cell 6
    have m7 : wr.cell? ⟨w.heap.size + 2, 7, none⟩ = some (.int .i64 m) := nr.cell 7
    have m8 : wr.cell? ⟨w.heap.size + 2, 8, none⟩ = some (.int .i64 M) := nr.cell 8
    have m9 : wr.cell? ⟨w.heap.size + 2, 9, none⟩ = some (.int .i64 0) := nr.cell 9
    by_cases hrp : (a : Int) < r2
    ·rcases hr2 with ⟨rfl, _⟩ | ⟨k, rfl, hk1, hk2, hk3⟩
     ·omega
     have hkp : a < k := by omega
     have hkj : k ≤ j := by omega
     obtain ⟨hent, hleft⟩ := HLC.out k (by omega) (by omega)
     obtain ⟨hd2, hhd2⟩ : ∃ d, d = leftS (semT s u) (semT s u).asked a h1 k := ⟨_, rfl⟩
     rw [← hhd2] at hleft
     have hcd : CapOk s.length hd2 := by rw [hhd2]; exact HSA.out.left_cap hc1 (by omega) (by omega)
     obtain ⟨c', hc'⟩ : ∃ c', c' = oneMore m M c := ⟨_, rfl⟩
     have hcat : agnK s (semT s u) m M a c h1 j k = (semT s (.times m M u)).ends k c' hd2 j := by
      rw [HEN.out, hc', hhd2]
      show ((semT s u).ends a 0 h1 k && _) = _
      rw [show (semT s u).ends a 0 h1 k = true from hk2, Bool.true_and]
     have hcc : c' ≤ 255 ∧ CntOk (.times m M u) c' := by rw [hc']; exact HCC.out
     have hcb := hcc.1
     have hone : ∀ W : World, Calls Tryz.prog 151 #[.agg (nA 6 0 0 0 0 (q : Int) 0 m M 0), .int .i64 c] W fun e w' => e = .returned (.int .i64 (c' : Nat)) ∧ Below W.heap.size W w' := fun W => by
      have := onemore_c ⟨6, 0, 0, 0, 0, (q : Int), 0, m, M, 0⟩ c (by omega) hm W
      rw [hc']
      exact this
     have HONE := Lib.hid hone
     have HLEFT := Lib.hid hleft
     have HENT := Lib.hid hent
     have HR2 := Lib.hid (And.intro br (And.intro nr (And.intro rr (And.intro hrowr (And.intro hEr (And.intro hpr hkall))))))
     have HQ := Lib.hid (And.intro hno2 (And.intro hk2 (And.intro hk3 (And.intro hcd (And.intro hcat (And.intro hK hpre))))))
     have HC2 := Lib.hid (And.intro hcc.2 (And.intro hc' (And.intro hhd2 (And.intro hkr hJr))))
     have hkI : (0 : Int) ≤ (k : Int) := by omega
     clear hone hleft hent br nr rr hrowr hEr hpr hkall hno2 hk2 hk3 hcd hcat hK hpre hcc hc' hhd2 hkr hJr
     go_wp2_with fail
     refine (HONE.out _).mono ?_
     rintro e w7 ⟨rfl, hB7⟩
     clear k0 k1 k2 k3 k4 k5 k6 k7 k8 k9 m0 m1 m2 m3 m4 m5 m6 m7 m8 m9
     have hK7 : ∀ S, Keeps S wr w7 := fun S => Keeps.of_below hB7
     have hl1 := HLEFT.out gz w7 (H5.out.2.2.2.trans HQ.out.2.2.2.2.2.2) (HX.out.keeps HC2.out.2.2.2.2 (hK7 _)) ((HC2.out.2.2.2.1.mono (fun i _ e => .inl e)).trans (hK7 _))
     have HL1 := Lib.hid hl1
     have HK7 := Lib.hid hK7
     have hent3 := HENT.out
     clear hl1 hB7 hK7
     go_wp2_with fail
     refine HL1.out.mono ?_
     rintro e w8 ⟨g2, rfl, hpre8, hJ8, hk8⟩
     have hk8r : Keeps (fun b => Mt v b ∨ M2 b) wr w8 := (HK7.out _).trans hk8
     have hE8 : ∀ b, (E b ∨ (w.heap.size ≤ b ∧ b < w.heap.size + 3)) → b < w8.heap.size := fun b hb => Nat.lt_of_lt_of_le (HR2.out.2.2.2.2.1 b hb) hk8r.size
     have hcall := HENC.out k (by omega) hkj c' hd2 _ g2 w8 (by omega) HC2.out.1 HQ.out.2.2.2.1 hJ8 hE8
     unfold capV PV at hcall
     have HCALL := Lib.hid hcall
     have H8 := Lib.hid (And.intro hpre8 hk8r)
     clear hcall hpre8 hJ8 hk8 hk8r hE8 hent3 HL1
     go_wp2_with fail
     refine HCALL.out.mono ?_
     rintro e w9 ⟨b2, g3, rfl, hrow2, _, _, _, _, hpre9, hJ9, hk9⟩
     have hkrM := H8.out.2.trans hk9
     have HM := Lib.hid (And.intro (H8.out.1.trans hpre9) (And.intro hJ9 hkrM))
     have HHAS := Lib.hid (has_m b2 (s.length / 64 + 1) (s.length / 64 + 1) j _ (by omega) (by omega) w9 hrow2)
     have lL : w.heap.size + 3 ≤ w9.heap.size := by have := hkrM.size; omega
     clear hrow2 hpre9 hJ9 hk9 hkrM HCALL
     go_wp2_with fail
     refine HHAS.out.mono ?_
     rintro e wL ⟨rfl, rfl⟩
     clear HHAS
     have br := HR2.out.1.keeps HM.out.2.2 (HNO.out _ (by omega))
     have nr := HR2.out.2.1.keeps HM.out.2.2 (HNO.out _ (by omega))
     have rr : VRow wL (w.heap.size + 1) 10 27 (fun _ => .complex .f64 0 0) := ⟨(HM.out.2.2.block _ HR2.out.2.2.1.lt (HNO.out _ (by omega))).trans HR2.out.2.2.1.heap⟩
     have hrowL : PRow wL b (s.length / 64 + 1) (fun i => (semT s u).ends a 0 h1 i) := HR2.out.2.2.2.1.keeps HM.out.2.2 HBM.out
     have hEL : ∀ b, (E b ∨ (w.heap.size ≤ b ∧ b < w.heap.size + 3)) → b < wL.heap.size := fun b hb => Nat.lt_of_lt_of_le (HR2.out.2.2.2.2.1 b hb) HM.out.2.2.size
     cases hq : (semT s (.times m M u)).ends k c' hd2 j with
     | false =>
      have HUPK : Hid (Calls Tryz.prog 52 #[.slice (some ⟨b, 0, none⟩) (s.length / 64 + 1) (s.length / 64 + 1), .int .i64 ((k : Int) - 1)] wL fun e w' => (∃ r, e = .returned (.int .i64 r) ∧ IsTo (fun i => (semT s u).ends a 0 h1 i) ((k : Int) - 1) r) ∧ w' = wL) := by
       refine Lib.hid ?_
       have := HUP.out (k - 1) (by omega) wL hrowL
       rw [show ((k - 1 : Nat) : Int) = (k : Int) - 1 by omega] at this
       exact this
      have hck : agnK s (semT s u) m M a c h1 j k = false := by rw [HQ.out.2.2.2.2.1]; exact hq
      have HCK := Lib.hid hck
      clear hck hq br nr rr hrowL hEL
      go_wp2_with fail
      refine HUPK.out.mono ?_
      rintro e wK ⟨⟨r3, rfl, hr3⟩, rfl⟩
      have HR3 := Lib.hid hr3
      have hr4 : r3 < (k : Int) := by
       rcases hr3 with ⟨e, _⟩ | ⟨k', e, h, _⟩
       ·omega
       ·omega
      clear hr3 HUPK
      go_wp2
      go_roundg ((r3 + 1).toNat)
      case measure => omega
      case rel =>
       refine ⟨r3, (k : Int) - 1, g3, rfl, rfl, rfl, rfl, by omega, HR3.out, fun i z1 z2 => ?_, HQ.out.2.2.2.2.2.2.trans HM.out.1, HM.out.2.1, HQ.out.2.2.2.2.2.1.trans HM.out.2.2⟩
       rcases (by omega : i = k ∨ k < i) with q1 | q1
       ·subst q1; exact HCK.out
       ·rcases (by omega : (i : Int) ≤ q2 ∨ q2 < i) with q3 | q3
        ·show ((semT s u).ends a 0 h1 i && _) = false
         rw [show (semT s u).ends a 0 h1 i = false from HQ.out.2.2.1 i q1 q3]; rfl
        ·exact HQ.out.1 i q3 z2
     | true =>
      have hck : agnK s (semT s u) m M a c h1 j k = true := by rw [HQ.out.2.2.2.2.1]; exact hq
      have hgr : greatest (a + 1) (agnK s (semT s u) m M a c h1 j) j = some k := great_at (by omega) hkj hck (fun i z1 z2 => by
       rcases (by omega : (i : Int) ≤ q2 ∨ q2 < i) with q3 | q3
       ·show ((semT s u).ends a 0 h1 i && _) = false
        rw [show (semT s u).ends a 0 h1 i = false from HQ.out.2.2.1 i z1 q3]; rfl
       ·exact HQ.out.1 i q3 z2)
      obtain ⟨Z1, hZ1⟩ : ∃ Z, Z = (semT s u).leave a k h1 := ⟨_, rfl⟩
      have hz1 : CapOk s.length Z1 := by rw [hZ1]; exact HSA.out.leave_cap hc1 (by omega) (by omega)
      have hag2 : agnE s (semT s u) m M (s.length - k) k c' Z1 j = true := by
       have e1 := hq
       rw [HEN.out] at e1
       rw [agn_ask HSA.out (s.length - k) k c' Z1 hd2 hz1 HQ.out.2.2.2.1 (by omega) (by rw [hZ1, HC2.out.2.2.1]; exact left_same HSA.out (fun g hg => HSA.out.ten g (.inl hg)))]
       exact e1
      have hrw2 : repW s (semT s u) m M (j - p) p 0 had j = repW s (semT s u) m M (j - k) k c' Z1 j := by
       rw [HREL.out.2.2.1, rep_step hlt, hgr, hZ1, HC2.out.2.1]
      have hcl := HLE.out a k hpa (by omega) hkj h1 _ g3 wL hc1 HM.out.2.1 hEL
      rw [← hZ1] at hcl
      unfold capV at hcl
      have HCL := Lib.hid hcl
      have HZ := Lib.hid (And.intro hz1 (And.intro hag2 hrw2))
      have HRR := Lib.hid (And.intro br (And.intro nr rr))
      have k0 : wL.cell? ⟨w.heap.size, 0, none⟩ = some (spV (h1 0)) := capBlk.at (had := h1) br 0 (by decide)
      have k1 : wL.cell? ⟨w.heap.size, 1, none⟩ = some (spV (h1 1)) := capBlk.at (had := h1) br 1 (by decide)
      have k2 : wL.cell? ⟨w.heap.size, 2, none⟩ = some (spV (h1 2)) := capBlk.at (had := h1) br 2 (by decide)
      have k3 : wL.cell? ⟨w.heap.size, 3, none⟩ = some (spV (h1 3)) := capBlk.at (had := h1) br 3 (by decide)
      have k4 : wL.cell? ⟨w.heap.size, 4, none⟩ = some (spV (h1 4)) := capBlk.at (had := h1) br 4 (by decide)
      have k5 : wL.cell? ⟨w.heap.size, 5, none⟩ = some (spV (h1 5)) := capBlk.at (had := h1) br 5 (by decide)
      have k6 : wL.cell? ⟨w.heap.size, 6, none⟩ = some (spV (h1 6)) := capBlk.at (had := h1) br 6 (by decide)
      have k7 : wL.cell? ⟨w.heap.size, 7, none⟩ = some (spV (h1 7)) := capBlk.at (had := h1) br 7 (by decide)
      have k8 : wL.cell? ⟨w.heap.size, 8, none⟩ = some (spV (h1 8)) := capBlk.at (had := h1) br 8 (by decide)
      have k9 : wL.cell? ⟨w.heap.size, 9, none⟩ = some (spV (h1 9)) := capBlk.at (had := h1) br 9 (by decide)
      have m5 : wL.cell? ⟨w.heap.size + 2, 5, none⟩ = some (.int .i64 (q : Int)) := nr.cell 5
      clear hck hgr hZ1 hz1 hag2 hrw2 hcl hq br nr rr hrowL hEL
      go_wp2_with fail
      refine HCL.out.mono ?_
      rintro e wP ⟨g4, rfl, hpre4, hJ4, hkP⟩
      clear k0 k1 k2 k3 k4 k5 k6 k7 k8 k9 m5
      have hbP := HRR.out.1.keeps hkP (HNO.out _ (by omega))
      have hnP := HRR.out.2.1.keeps hkP (HNO.out _ (by omega))
      have hrP : VRow wP (w.heap.size + 1) 10 27 (fun _ => .complex .f64 0 0) := ⟨(hkP.block _ HRR.out.2.2.lt (HNO.out _ (by omega))).trans HRR.out.2.2.heap⟩
      have hvP : VRow wP w.heap.size 10 27 (fun i => spV (h1 i)) := ⟨hbP.heap⟩
      have hbS := blk_store hvP Z1
      obtain ⟨r0, r1, r2, r3, r4, r5, r6, r7, r8, r9, f0, f1, f2, f3, f4, f5, f6, f7, f8, f9⟩ := hvP.rf10
      obtain ⟨s0, s1, s2, s3, s4, s5, s6, s7, s8, s9⟩ := st10 (w := wP) (b := w.heap.size) hvP Z1
      have HKS := Lib.hid (kp10 (w := wP) (b := w.heap.size) Z1)
      have HSS := Lib.hid (And.intro s0 (And.intro s1 (And.intro s2 (And.intro s3 (And.intro s4 (And.intro s5 (And.intro s6 (And.intro s7 (And.intro s8 s9)))))))))
      clear hvP s0 s1 s2 s3 s4 s5 s6 s7 s8 s9
      have hnS := hnP.keeps HKS.out (by omega)
      have m0 : (sC10 wP w.heap.size Z1).cell? ⟨w.heap.size + 2, 0, none⟩ = some (.int .i64 6) := hnS.cell 0
      have m1 : (sC10 wP w.heap.size Z1).cell? ⟨w.heap.size + 2, 1, none⟩ = some (.int .u64 0) := hnS.cell 1
      have m2 : (sC10 wP w.heap.size Z1).cell? ⟨w.heap.size + 2, 2, none⟩ = some (.int .u64 0) := hnS.cell 2
      have m3 : (sC10 wP w.heap.size Z1).cell? ⟨w.heap.size + 2, 3, none⟩ = some (.int .u64 0) := hnS.cell 3
      have m4 : (sC10 wP w.heap.size Z1).cell? ⟨w.heap.size + 2, 4, none⟩ = some (.int .u64 0) := hnS.cell 4
      have m5 : (sC10 wP w.heap.size Z1).cell? ⟨w.heap.size + 2, 5, none⟩ = some (.int .i64 (q : Int)) := hnS.cell 5
      have m6 : (sC10 wP w.heap.size Z1).cell? ⟨w.heap.size + 2, 6, none⟩ = some (.int .i64 0) := hnS.cell 6
      have m7 : (sC10 wP w.heap.size Z1).cell? ⟨w.heap.size + 2, 7, none⟩ = some (.int .i64 m) := hnS.cell 7
      have m8 : (sC10 wP w.heap.size Z1).cell? ⟨w.heap.size + 2, 8, none⟩ = some (.int .i64 M) := hnS.cell 8
      have m9 : (sC10 wP w.heap.size Z1).cell? ⟨w.heap.size + 2, 9, none⟩ = some (.int .i64 0) := hnS.cell 9
      have hrS : VRow (sC10 wP w.heap.size Z1) (w.heap.size + 1) 10 27 (fun _ => .complex .f64 0 0) := ⟨(HKS.out.block _ hrP.lt (by omega)).trans hrP.heap⟩
      have HS := Lib.hid (And.intro hbS (And.intro hnS (And.intro hrS (And.intro hpre4 (And.intro hJ4 hkP)))))
      have lP : w.heap.size + 3 ≤ wP.heap.size := by have := hkP.size; omega
      clear hbP hnP hrP hbS hnS hrS hpre4 hJ4 hkP HSS
      go_wp2_with fail
      refine (HONE.out _).mono ?_
      rintro e wQ ⟨rfl, hBQ⟩
      have HKQ := Lib.hid (fun S => Keeps.of_below (S := S) hBQ)
      clear hBQ m0 m1 m2 m3 m4 m5 m6 m7 m8 m9
      go_wp2
      go_roundg (j - k)
      case measure => have := HREL.out.2.2.2; omega
      case rel =>
       have hkS : Keeps (fun b => (Mt v b ∨ M2 b) ∨ b = w.heap.size) wL wQ := ((HS.out.2.2.2.2.2.mono (fun i _ e => .inl e)).trans (HKS.out.mono (fun i _ e => .inr e))).trans (HKQ.out _)
       refine ⟨k, c', Z1, g4, rfl, rfl, rfl, by omega, hkj, HZ.out.1, by omega, HC2.out.1, .inr HZ.out.2.1, HZ.out.2.2, ((HR2.out.2.2.2.2.2.1.trans HM.out.1).trans HS.out.2.2.2.1), HX.out.keeps (HX.out.keeps HS.out.2.2.2.2.1 (HKS.out.mono (fun i _ e => .inr (by subst e; omega)))) (HKQ.out _), HS.out.1.keeps (HKQ.out (fun _ => False)) id, ?_, HS.out.2.1.keeps (HKQ.out (fun _ => False)) id, ?_⟩
       ·exact ⟨((HKQ.out (fun _ => False)).block _ HS.out.2.2.1.lt id).trans HS.out.2.2.1.heap⟩
       ·refine Keeps.trans ?_ hkS
        exact (((H1.out.2.2.2.2.2.2.1.trans (HK4.out _)).trans (HC2.out.2.2.2.1.mono (fun i _ e => .inl e))).trans (HM.out.2.2.mono (fun i _ e => .inl e)))
    ·have hgr : greatest (a + 1) (agnK s (semT s u) m M a c h1 j) j = none := great_no (fun i z1 z2 => by
      rcases (by omega : (i : Int) ≤ q2 ∨ q2 < i) with q3 | q3
      ·show ((semT s u).ends a 0 h1 i && _) = false
       have : (semT s u).ends a 0 h1 i = false := by
        rcases hr2 with ⟨_, hz⟩ | ⟨k, hk0, _, _, hk3⟩
        ·exact hz i q3
        ·exact hk3 i (by omega) q3
       rw [this]; rfl
      ·exact hno2 i q3 z2)
     have hfinE : repW s (semT s u) m M (j - p) p 0 had j = if (c : Int) < m then (semT s u).leave j j h1 else h1 := by
      rw [HREL.out.2.2.1, rep_step hlt, hgr]
     have brE := br
     have nrE := nr
     have rrE := rr
     have hJE := hJr
     have hpreE := hpr
     have hEE := hEr
     have hkE := hkall
     clear hgr br nr rr hJr hpr hEr hkall hno2 hr2 hkr hrowr hK hpre
     have lE : w.heap.size + 3 ≤ wr.heap.size := by have := rrE.lt; have := nrE.lt; omega
     clear k0 k1 k2 k3 k4 k5 k6 k7 k8 k9 m0 m1 m2 m3 m4 m5 m6 m7 m8 m9
     have k0 : wr.cell? ⟨w.heap.size, 0, none⟩ = some (spV (h1 0)) := capBlk.at (had := h1) brE 0 (by decide)
     have k1 : wr.cell? ⟨w.heap.size, 1, none⟩ = some (spV (h1 1)) := capBlk.at (had := h1) brE 1 (by decide)
     have k2 : wr.cell? ⟨w.heap.size, 2, none⟩ = some (spV (h1 2)) := capBlk.at (had := h1) brE 2 (by decide)
     have k3 : wr.cell? ⟨w.heap.size, 3, none⟩ = some (spV (h1 3)) := capBlk.at (had := h1) brE 3 (by decide)
     have k4 : wr.cell? ⟨w.heap.size, 4, none⟩ = some (spV (h1 4)) := capBlk.at (had := h1) brE 4 (by decide)
     have k5 : wr.cell? ⟨w.heap.size, 5, none⟩ = some (spV (h1 5)) := capBlk.at (had := h1) brE 5 (by decide)
     have k6 : wr.cell? ⟨w.heap.size, 6, none⟩ = some (spV (h1 6)) := capBlk.at (had := h1) brE 6 (by decide)
     have k7 : wr.cell? ⟨w.heap.size, 7, none⟩ = some (spV (h1 7)) := capBlk.at (had := h1) brE 7 (by decide)
     have k8 : wr.cell? ⟨w.heap.size, 8, none⟩ = some (spV (h1 8)) := capBlk.at (had := h1) brE 8 (by decide)
     have k9 : wr.cell? ⟨w.heap.size, 9, none⟩ = some (spV (h1 9)) := capBlk.at (had := h1) brE 9 (by decide)
     have m5 : wr.cell? ⟨w.heap.size + 2, 5, none⟩ = some (.int .i64 (q : Int)) := nrE.cell 5
     have m7 : wr.cell? ⟨w.heap.size + 2, 7, none⟩ = some (.int .i64 m) := nrE.cell 7
     by_cases hcm : (c : Int) < m
     ·obtain ⟨Z, hZ⟩ : ∃ Z, Z = (semT s u).leave j j h1 := ⟨_, rfl⟩
      rw [if_pos hcm, ← hZ] at hfinE
      have hcall := HLE.out j j hp (Nat.le_refl _) (Nat.le_refl _) h1 _ gz wr hc1 hJE hEE
      rw [← hZ] at hcall
      unfold capV at hcall
      have HCALL := Lib.hid hcall
      have HZF := Lib.hid hfinE
      have HPE := Lib.hid (And.intro hpreE (And.intro hkE (And.intro rrE hJE)))
      clear hcall hZ hfinE hpreE hkE rrE hJE brE nrE hEE
      go_wp2_with fail
      refine HCALL.out.mono ?_
      rintro e wE ⟨gE, rfl, hpre9, hJ9, hk9⟩
      have hrE : VRow wE (w.heap.size + 1) 10 27 (fun _ => .complex .f64 0 0) := ⟨(hk9.block _ HPE.out.2.2.1.lt (HNO.out _ (by omega))).trans HPE.out.2.2.1.heap⟩
      have HFIN := Lib.hid (And.intro (HPE.out.1.trans hpre9) (And.intro hJ9 (HPE.out.2.1.trans hk9)))
      have lE2 : w.heap.size + 3 ≤ wE.heap.size := by have := hk9.size; omega
      clear hpre9 hJ9 hk9 HCALL m5 m7 k0 k1 k2 k3 k4 k5 k6 k7 k8 k9
      obtain ⟨r0, r1, r2, r3, r4, r5, r6, r7, r8, r9, f0, f1, f2, f3, f4, f5, f6, f7, f8, f9⟩ := hrE.rf10
      obtain ⟨s0, s1, s2, s3, s4, s5, s6, s7, s8, s9⟩ := st10 (w := wE) (b := w.heap.size + 1) hrE Z
      have HKS := Lib.hid (kp10 (w := wE) (b := w.heap.size + 1) Z)
      have HSS := Lib.hid (And.intro s0 (And.intro s1 (And.intro s2 (And.intro s3 (And.intro s4 (And.intro s5 (And.intro s6 (And.intro s7 (And.intro s8 s9)))))))))
      clear hrE s0 s1 s2 s3 s4 s5 s6 s7 s8 s9
      go_wp2
      (try rw [Exit.noGoto_ret])
      obtain ⟨s0, s1, s2, s3, s4, s5, s6, s7, s8, s9⟩ := HSS.out
      first
      | refine bodyPost_ret (v := .agg (cH Z)) (by simp [results, Tryz.results133, go_sem, s0, s1, s2, s3, s4, s5, s6, s7, s8, s9]) rfl ⟨gE, ?_, HFIN.out.1, HX.out.mono (HX.out.keeps HFIN.out.2.1 (HKS.out.mono (fun i _ e => .inr (by subst e; omega)))) (fun b hb => .inl hb), HFIN.out.2.2.trans2 HKS.out (fun i hi e => by omega)⟩
      | refine bodyPost_ret (v := .agg (cH Z)) (by simp [results, Tryz.results133, go_sem, s0, s1, s2, s3, s4, s5, s6, s7, s8, s9]) rfl ⟨?_, gE, HFIN.out.1, HX.out.mono (HX.out.keeps HFIN.out.2.1 (HKS.out.mono (fun i _ e => .inr (by subst e; omega)))) (fun b hb => .inl hb), HFIN.out.2.2.trans2 HKS.out (fun i hi e => by omega)⟩
      show Ending.returned (capV Z) = Ending.returned (capV ((semT s (.times m M u)).walk p j had))
      rw [HWALK.out, HZF.out]
     ·rw [if_neg hcm] at hfinE
      have hrE := rrE
      have HZF := Lib.hid hfinE
      have HFIN := Lib.hid (And.intro hpreE (And.intro hJE hkE))
      clear hfinE hpreE hJE hkE rrE brE nrE hEE m5
      obtain ⟨r0, r1, r2, r3, r4, r5, r6, r7, r8, r9, f0, f1, f2, f3, f4, f5, f6, f7, f8, f9⟩ := hrE.rf10
      obtain ⟨s0, s1, s2, s3, s4, s5, s6, s7, s8, s9⟩ := st10 (w := wr) (b := w.heap.size + 1) hrE h1
      have HKS := Lib.hid (kp10 (w := wr) (b := w.heap.size + 1) h1)
      have HSS := Lib.hid (And.intro s0 (And.intro s1 (And.intro s2 (And.intro s3 (And.intro s4 (And.intro s5 (And.intro s6 (And.intro s7 (And.intro s8 s9)))))))))
      clear hrE s0 s1 s2 s3 s4 s5 s6 s7 s8 s9
      go_wp2
      (try rw [Exit.noGoto_ret])
      obtain ⟨s0, s1, s2, s3, s4, s5, s6, s7, s8, s9⟩ := HSS.out
      first
      | refine bodyPost_ret (v := .agg (cH h1)) (by simp [results, Tryz.results133, go_sem, s0, s1, s2, s3, s4, s5, s6, s7, s8, s9]) rfl ⟨gz, ?_, HFIN.out.1, HX.out.mono (HX.out.keeps HFIN.out.2.1 (HKS.out.mono (fun i _ e => .inr (by subst e; omega)))) (fun b hb => .inl hb), HFIN.out.2.2.trans2 HKS.out (fun i hi e => by omega)⟩
      | refine bodyPost_ret (v := .agg (cH h1)) (by simp [results, Tryz.results133, go_sem, s0, s1, s2, s3, s4, s5, s6, s7, s8, s9]) rfl ⟨?_, gz, HFIN.out.1, HX.out.mono (HX.out.keeps HFIN.out.2.1 (HKS.out.mono (fun i _ e => .inr (by subst e; omega)))) (fun b hb => .inl hb), HFIN.out.2.2.trans2 HKS.out (fun i hi e => by omega)⟩
      show Ending.returned (capV h1) = Ending.returned (capV ((semT s (.times m M u)).walk p j had))
      rw [HWALK.out, HZF.out]
  ·have hfinE : repW s (semT s u) m M (j - p) p 0 had j = if (c : Int) < m then (semT s u).leave j j h1 else h1 := by
    rw [hrw, rep_end hlt]
   have hltI : ¬ (a : Int) < (j : Int) := by omega
   have brE := hBr
   have nrE := hNr
   have rrE := hRr
   have hJE := hJr
   have hpreE := hpre
   have hEE := hEr
   have hkE := hkall
   clear hBr hNr hRr hJr hpre hEr hkall hag hrw hcn hK hg
   have lE : w.heap.size + 3 ≤ wa.heap.size := by have := rrE.lt; have := nrE.lt; omega
   clear k0 k1 k2 k3 k4 k5 k6 k7 k8 k9 m0 m1 m2 m3 m4 m5 m6 m7 m8 m9
   have k0 : wa.cell? ⟨w.heap.size, 0, none⟩ = some (spV (h1 0)) := capBlk.at (had := h1) brE 0 (by decide)
   have k1 : wa.cell? ⟨w.heap.size, 1, none⟩ = some (spV (h1 1)) := capBlk.at (had := h1) brE 1 (by decide)
   have k2 : wa.cell? ⟨w.heap.size, 2, none⟩ = some (spV (h1 2)) := capBlk.at (had := h1) brE 2 (by decide)
   have k3 : wa.cell? ⟨w.heap.size, 3, none⟩ = some (spV (h1 3)) := capBlk.at (had := h1) brE 3 (by decide)
   have k4 : wa.cell? ⟨w.heap.size, 4, none⟩ = some (spV (h1 4)) := capBlk.at (had := h1) brE 4 (by decide)
   have k5 : wa.cell? ⟨w.heap.size, 5, none⟩ = some (spV (h1 5)) := capBlk.at (had := h1) brE 5 (by decide)
   have k6 : wa.cell? ⟨w.heap.size, 6, none⟩ = some (spV (h1 6)) := capBlk.at (had := h1) brE 6 (by decide)
   have k7 : wa.cell? ⟨w.heap.size, 7, none⟩ = some (spV (h1 7)) := capBlk.at (had := h1) brE 7 (by decide)
   have k8 : wa.cell? ⟨w.heap.size, 8, none⟩ = some (spV (h1 8)) := capBlk.at (had := h1) brE 8 (by decide)
   have k9 : wa.cell? ⟨w.heap.size, 9, none⟩ = some (spV (h1 9)) := capBlk.at (had := h1) brE 9 (by decide)
   have m5 : wa.cell? ⟨w.heap.size + 2, 5, none⟩ = some (.int .i64 (q : Int)) := nrE.cell 5
   have m7 : wa.cell? ⟨w.heap.size + 2, 7, none⟩ = some (.int .i64 m) := nrE.cell 7
   by_cases hcm : (c : Int) < m
   ·obtain ⟨Z, hZ⟩ : ∃ Z, Z = (semT s u).leave j j h1 := ⟨_, rfl⟩
    rw [if_pos hcm, ← hZ] at hfinE
    have hcall := HLE.out j j hp (Nat.le_refl _) (Nat.le_refl _) h1 _ gs wa hc1 hJE hEE
    rw [← hZ] at hcall
    unfold capV at hcall
    have HCALL := Lib.hid hcall
    have HZF := Lib.hid hfinE
    have HPE := Lib.hid (And.intro hpreE (And.intro hkE (And.intro rrE hJE)))
    clear hcall hZ hfinE hpreE hkE rrE hJE brE nrE hEE
    go_wp2_with fail
    refine HCALL.out.mono ?_
    rintro e wE ⟨gE, rfl, hpre9, hJ9, hk9⟩
    have hrE : VRow wE (w.heap.size + 1) 10 27 (fun _ => .complex .f64 0 0) := ⟨(hk9.block _ HPE.out.2.2.1.lt (HNO.out _ (by omega))).trans HPE.out.2.2.1.heap⟩
    have HFIN := Lib.hid (And.intro (HPE.out.1.trans hpre9) (And.intro hJ9 (HPE.out.2.1.trans hk9)))
    have lE2 : w.heap.size + 3 ≤ wE.heap.size := by have := hk9.size; omega
    clear hpre9 hJ9 hk9 HCALL m5 m7 k0 k1 k2 k3 k4 k5 k6 k7 k8 k9
    obtain ⟨r0, r1, r2, r3, r4, r5, r6, r7, r8, r9, f0, f1, f2, f3, f4, f5, f6, f7, f8, f9⟩ := hrE.rf10
    obtain ⟨s0, s1, s2, s3, s4, s5, s6, s7, s8, s9⟩ := st10 (w := wE) (b := w.heap.size + 1) hrE Z
    have HKS := Lib.hid (kp10 (w := wE) (b := w.heap.size + 1) Z)
    have HSS := Lib.hid (And.intro s0 (And.intro s1 (And.intro s2 (And.intro s3 (And.intro s4 (And.intro s5 (And.intro s6 (And.intro s7 (And.intro s8 s9)))))))))
    clear hrE s0 s1 s2 s3 s4 s5 s6 s7 s8 s9
    go_wp2
    (try rw [Exit.noGoto_ret])
    obtain ⟨s0, s1, s2, s3, s4, s5, s6, s7, s8, s9⟩ := HSS.out
    first
    | refine bodyPost_ret (v := .agg (cH Z)) (by simp [results, Tryz.results133, go_sem, s0, s1, s2, s3, s4, s5, s6, s7, s8, s9]) rfl ⟨gE, ?_, HFIN.out.1, HX.out.mono (HX.out.keeps HFIN.out.2.1 (HKS.out.mono (fun i _ e => .inr (by subst e; omega)))) (fun b hb => .inl hb), HFIN.out.2.2.trans2 HKS.out (fun i hi e => by omega)⟩
    | refine bodyPost_ret (v := .agg (cH Z)) (by simp [results, Tryz.results133, go_sem, s0, s1, s2, s3, s4, s5, s6, s7, s8, s9]) rfl ⟨?_, gE, HFIN.out.1, HX.out.mono (HX.out.keeps HFIN.out.2.1 (HKS.out.mono (fun i _ e => .inr (by subst e; omega)))) (fun b hb => .inl hb), HFIN.out.2.2.trans2 HKS.out (fun i hi e => by omega)⟩
    show Ending.returned (capV Z) = Ending.returned (capV ((semT s (.times m M u)).walk p j had))
    rw [HWALK.out, HZF.out]
   ·rw [if_neg hcm] at hfinE
    have hrE := rrE
    have HZF := Lib.hid hfinE
    have HFIN := Lib.hid (And.intro hpreE (And.intro hJE hkE))
    clear hfinE hpreE hJE hkE rrE brE nrE hEE m5
    obtain ⟨r0, r1, r2, r3, r4, r5, r6, r7, r8, r9, f0, f1, f2, f3, f4, f5, f6, f7, f8, f9⟩ := hrE.rf10
    obtain ⟨s0, s1, s2, s3, s4, s5, s6, s7, s8, s9⟩ := st10 (w := wa) (b := w.heap.size + 1) hrE h1
    have HKS := Lib.hid (kp10 (w := wa) (b := w.heap.size + 1) h1)
    have HSS := Lib.hid (And.intro s0 (And.intro s1 (And.intro s2 (And.intro s3 (And.intro s4 (And.intro s5 (And.intro s6 (And.intro s7 (And.intro s8 s9)))))))))
    clear hrE s0 s1 s2 s3 s4 s5 s6 s7 s8 s9
    go_wp2
    (try rw [Exit.noGoto_ret])
    obtain ⟨s0, s1, s2, s3, s4, s5, s6, s7, s8, s9⟩ := HSS.out
    first
    | refine bodyPost_ret (v := .agg (cH h1)) (by simp [results, Tryz.results133, go_sem, s0, s1, s2, s3, s4, s5, s6, s7, s8, s9]) rfl ⟨gs, ?_, HFIN.out.1, HX.out.mono (HX.out.keeps HFIN.out.2.1 (HKS.out.mono (fun i _ e => .inr (by subst e; omega)))) (fun b hb => .inl hb), HFIN.out.2.2.trans2 HKS.out (fun i hi e => by omega)⟩
    | refine bodyPost_ret (v := .agg (cH h1)) (by simp [results, Tryz.results133, go_sem, s0, s1, s2, s3, s4, s5, s6, s7, s8, s9]) rfl ⟨?_, gs, HFIN.out.1, HX.out.mono (HX.out.keeps HFIN.out.2.1 (HKS.out.mono (fun i _ e => .inr (by subst e; omega)))) (fun b hb => .inl hb), HFIN.out.2.2.trans2 HKS.out (fun i hi e => by omega)⟩
    show Ending.returned (capV h1) = Ending.returned (capV ((semT s (.times m M u)).walk p j had))
    rw [HWALK.out, HZF.out]
end
end Go.Proofs.YtgllmhheahlpjaaGreatDoor
