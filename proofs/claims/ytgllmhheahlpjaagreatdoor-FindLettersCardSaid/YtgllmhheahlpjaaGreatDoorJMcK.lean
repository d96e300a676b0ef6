/- A trial: again. -/
import Derived.Test.YtgllmhheahlpjaaGreatDoorJMbO
set_option linter.unusedVariables false
set_option linter.unusedSimpArgs false
set_option maxRecDepth 100000
set_option maxHeartbeats 40000000
namespace Go.Proofs.YtgllmhheahlpjaaGreatDoor
open Go.RowKit Go.Maps Go.WideMaps
theorem agn_step {s : List UInt8} {A : Sem} {m M : Int} {p c j : Nat} {had : Cp} (hp : p ≤ s.length) : agnE s A m M (s.length - p) p c had j = ((decide (j = p) && (decide (m ≤ c) || A.ends p 0 had p)) || (decide ((c : Int) ≠ M) && anyR (p + 1) s.length fun k => A.ends p 0 had k && agnE s A m M (s.length - k) k (oneMore m M c) (leftS A A.asked p had k) j)) := by
 rcases Nat.lt_or_ge p s.length with h | h
 ·obtain ⟨f, hf⟩ : ∃ f, s.length - p = f + 1 := ⟨s.length - p - 1, by omega⟩
  rw [hf, agnE]
  congr 2
  rw [Bool.eq_iff_iff, anyR_iff, anyR_iff]
  constructor
  ·rintro ⟨k, a, b, e⟩
   exact ⟨k, a, b, by rw [← e, agn_fu (s.length - k) f k _ _ (by omega) (by omega)]⟩
  ·rintro ⟨k, a, b, e⟩
   exact ⟨k, a, b, by rw [← e, agn_fu f (s.length - k) k _ _ (by omega) (by omega)]⟩
 ·obtain rfl : p = s.length := by omega
  have e : (anyR (s.length + 1) s.length fun k => A.ends s.length 0 had k && agnE s A m M (s.length - k) k (oneMore m M c) (leftS A A.asked s.length had k) j) = false := by
   rw [Bool.eq_false_iff]
   intro e
   obtain ⟨k, a, b, _⟩ := anyR_iff.1 e
   omega
  rw [e, Bool.and_false, Bool.or_false, Nat.sub_self, agnE]
def agnK (s : List UInt8) (A : Sem) (m M : Int) (p c : Nat) (had : Cp) (j k : Nat) : Bool := A.ends p 0 had k && agnE s A m M (s.length - k) k (oneMore m M c) (leftS A A.asked p had k) j
section
variable {X : Nat} {v : TrV} {s : List UInt8} {xs : List Nd} {B : Nat} {c1 : Lit → Nat} {n1 : Nat} {P1 : Lit → Prop} {c2 : Lit → Nat} {n2 : Nat} {M2 : Nat → Prop} {J : (Nat → Prop) → List Lit → World → Prop}
theorem again_c (jx : JX X v s xs B c1 n1 P1 c2 n2 M2 J) (fx : Fx v s xs B P1) (n p q : Nat) (m M : Int) (t : T) (hn : n < v.n) (hp : p ≤ s.length) (hx : xs[n]? = some ⟨6, 0, 0, 0, 0, (q : Int), 0, m, M, 0⟩) (hm : 0 ≤ m ∧ m ≤ 255) (hMx : M = -1 ∨ M ≤ 255) (hbt : t.isBytes = none) (ha0 : CntOk t 0) (hSA : SOk s.length (semT s t)) (hA : EndsC X v s B M2 J q t p)
  (hG : ∀ k, p < k → k ≤ s.length → GoC X v s B M2 J n (.times m M t) k) (hLv : (∀ (had : Cp) (E : Nat → Prop) (es : List Lit) (w : World), CapOk s.length had → J E es w → (∀ b, E b → b < w.heap.size) → Calls Tryz.prog 150 #[.pointer (some ⟨X, 0, none⟩), .int .i64 q, .int .i64 n, .int .i64 p, capV had] w fun e w' => ∃ (K : FuncId) (cap : Array Value), e = .returned (.func (.func K) #[] cap) ∧ (∀ S, Keeps S w w') ∧ ∀ k, p ≤ k → k ≤ s.length → LeftC v M2 J K cap k (leftS (semT s t) (semT s t).asked p had k) E es w')) : FillC X v s B M2 J 153 n (.times m M t) p := by
 have hB0 := fx.B1
 have hB3 := fx.B3
 have hsl := fx.sl
 intro c had E es w fb f hcB hcnt hcap hJ hE hfb hrow
 have iv := jx.iv hJ
 have hk1 : ∀ S, Keeps S w (w.alloc (.cells (cH had) 27)) := fun S => (Keeps.refl S w).alloc _
 have iv1 := iv.keeps (hk1 _)
 have x0 := iv1.tr.c0
 have d := iv1.nodes.cell n _ hx
 have d0 : (w.alloc (.cells (cH had) 27)).cell? ⟨v.lb, v.lo + n * 10, none⟩ = some (.int .i64 6) := d 0 _ rfl
 have d1 : (w.alloc (.cells (cH had) 27)).cell? ⟨v.lb, v.lo + n * 10 + 1, none⟩ = some (.int .u64 0) := d 1 _ rfl
 have d2 : (w.alloc (.cells (cH had) 27)).cell? ⟨v.lb, v.lo + n * 10 + 2, none⟩ = some (.int .u64 0) := d 2 _ rfl
 have d3 : (w.alloc (.cells (cH had) 27)).cell? ⟨v.lb, v.lo + n * 10 + 3, none⟩ = some (.int .u64 0) := d 3 _ rfl
 have d4 : (w.alloc (.cells (cH had) 27)).cell? ⟨v.lb, v.lo + n * 10 + 4, none⟩ = some (.int .u64 0) := d 4 _ rfl
 have d5 : (w.alloc (.cells (cH had) 27)).cell? ⟨v.lb, v.lo + n * 10 + 5, none⟩ = some (.int .i64 (q : Int)) := d 5 _ rfl
 have d6 : (w.alloc (.cells (cH had) 27)).cell? ⟨v.lb, v.lo + n * 10 + 6, none⟩ = some (.int .i64 0) := d 6 _ rfl
 have d7 : (w.alloc (.cells (cH had) 27)).cell? ⟨v.lb, v.lo + n * 10 + 7, none⟩ = some (.int .i64 m) := d 7 _ rfl
 have d8 : (w.alloc (.cells (cH had) 27)).cell? ⟨v.lb, v.lo + n * 10 + 8, none⟩ = some (.int .i64 M) := d 8 _ rfl
 have d9 : (w.alloc (.cells (cH had) 27)).cell? ⟨v.lb, v.lo + n * 10 + 9, none⟩ = some (.int .i64 0) := d 9 _ rfl
 have hk2 : ∀ S, Keeps S w ((w.alloc (.cells (cH had) 27)).alloc (.cells (nA 6 0 0 0 0 (q : Int) 0 m M 0) 60)) := fun S => (hk1 S).alloc _
 have hb2 := (capBlk w had).alloc (.cells (nA 6 0 0 0 0 (q : Int) 0 m M 0) 60)
 have hrow2 := hrow.keeps (hk2 (fun _ => False)) id
 have hJ2 := jx.keeps hJ (hk2 _)
 have hE2 : ∀ b, E b → b < ((w.alloc (.cells (cH had) 27)).alloc (.cells (nA 6 0 0 0 0 (q : Int) 0 m M 0) 60)).heap.size := fun b hb => by
  have := hE b hb
  have := (hk2 (fun _ => False)).size
  omega
 have x01 := (iv.keeps (hk2 _)).tr.c0
 have hnM : ¬ Mt v fb ∧ ¬ M2 fb := ⟨fun e => by
  obtain ⟨o1, o2, o3, o4, o5, o6, o7⟩ := iv.out
  rcases e with e | e | e
  ·subst e; exact o4 (.inl hfb)
  ·subst e; exact o5 (.inl hfb)
  ·subst e; exact o6 (.inl hfb), fun e => (jx.lt hJ fb e).2 _ _ hrow⟩
 obtain ⟨k0, k1, k2, k3, k4, k5, k6, k7, k8, k9⟩ := capBlk.ten (w := ((w.alloc (.cells (cH had) 27)).alloc (.cells (nA 6 0 0 0 0 (q : Int) 0 m M 0) 60))) (b := w.heap.size) (had := had) hb2
 have hcall := hA 0 had E es _ (by omega) ha0 hcap hJ2 hE2
 unfold capV at hcall
 have HCALL := Lib.hid hcall
 have HK2 := Lib.hid hk2
 have HB2 := Lib.hid (And.intro hb2 (And.intro hE2 (And.intro hcap (And.intro hnM hcnt))))
 have HROW := Lib.hid hrow2
 have HG := Lib.hid hG
 have HX := Lib.hid jx
 have HSA := Lib.hid hSA
 have HLV := Lib.hid hLv
 have HEN := Lib.hid (fun (c : Nat) (had : Cp) j => (show (semT s (.times m M t)).ends p c had j = agnE s (semT s t) m M (s.length - p) p c had j from by simp only [semT, timesS, hbt]))
 have HENK := Lib.hid (fun (k c : Nat) (had : Cp) j => (show (semT s (.times m M t)).ends k c had j = agnE s (semT s t) m M (s.length - k) k c had j from by simp only [semT, timesS, hbt]))
 have lfb := hrow.lt
 have lw := iv.lts
 have HM2 := Lib.hid (fun b hb => (jx.lt hJ b hb).1)
 have hn4 : Blk ((w.alloc (.cells (cH had) 27)).alloc (.cells (nA 6 0 0 0 0 (q : Int) 0 m M 0) 60)) (w.heap.size + 1) (nA 6 0 0 0 0 (q : Int) 0 m M 0) 60 := by
  have := Blk.new (w.alloc (.cells (cH had) 27)) (nA 6 0 0 0 0 (q : Int) 0 m M 0) 60
  rw [World.size_alloc] at this
  exact this
 have HN4 := Lib.hid hn4
 clear hcall hk2 hA hG hLv hx hnM hn4 hSA
 clear d x01 hrow2 hJ2 hE2 hk1 hb2 iv iv1 hJ hE hrow hcap hcnt jx
 unfold capV PV
 go_enter Tryz.func153, Tryz.ntmps153
 go_wp2_with fail
 refine HCALL.out.mono ?_
 rintro e w4 ⟨b, fs, rfl, hrow4, hbE, hb00, hbM2, hbM, hpre4, hJ4, hk4⟩
 have hff : ∀ i, 64 * (s.length / 64 + 1) ≤ i → (semT s t).ends p 0 had i = false := fun i hi => by
  rw [Bool.eq_false_iff]
  intro e
  have := (HSA.out.le p 0 had i HB2.out.2.2.1 hp e).2
  omega
 have HFF := Lib.hid hff
 have HFR := Lib.hid (fun (q : Nat) (hq : q ≤ 1000000000) (W : World) (hT : TabAt 0 Lib.deBruijn64tab W) (h : PRow W b (s.length / 64 + 1) (fun j => (semT s t).ends p 0 had j)) => from_m b (s.length / 64 + 1) (s.length / 64 + 1) q _ (by omega) hq HFF.out W hT h)
 have hno : ∀ b, w.heap.size ≤ b → ¬ (Mt v b ∨ M2 b) := fun b hb e => by
  rcases e with e | e
  ·rcases e with e | e | e <;> omega
  ·have := HM2.out b e; omega
 have c4 := HB2.out.1.keeps hk4 (hno _ (by omega))
 have n4 := HN4.out.keeps hk4 (hno _ (by omega))
 have hrf := HROW.out.keeps hk4 (fun e => e.elim HB2.out.2.2.2.1.1 HB2.out.2.2.2.1.2)
 have HW4 := Lib.hid (And.intro hrow4 (And.intro hJ4 (And.intro hk4 (And.intro hpre4 hbE))))
 have HBM := Lib.hid (And.intro hbM2 hbM)
 have hbf : b ≠ fb := fun e => hbE (e ▸ hfb)
 have m7 : w4.cell? ⟨w.heap.size + 1, 7, none⟩ = some (.int .i64 m) := n4.cell 7
 clear k0 k1 k2 k3 k4 k5 k6 k7 k8 k9 HCALL hff hJ4 hk4 hpre4 hno
 by_cases hmc : m ≤ (c : Int)
 ·have hput := put_m fb (s.length / 64 + 1) (s.length / 64 + 1) p f (by omega) (by omega) w4 hrf
  obtain ⟨wt, hwt⟩ : ∃ wt, wt = (w4.setCell ⟨fb, p / 64, none⟩ (.int .u64 (wd (fun i => f i || i == p) (p / 64)))).drew := ⟨_, rfl⟩
  have hKT : Keeps (fun b => b = fb) w4 wt := by rw [hwt]; exact put_keeps w4 fb _ _
  have hrT : PRow wt fb (s.length / 64 + 1) (fun i => f i || i == p) := by rw [hwt]; exact (hrf.put p).drew
  have nT := n4.keeps hKT (by omega)
  have cT := c4.keeps hKT (by omega)
  have bT := hrow4.keeps hKT hbf
  rw [← hwt] at hput
  have HPUT := Lib.hid hput
  have HTT := Lib.hid (And.intro hKT (And.intro hrT (And.intro nT (And.intro cT bT))))
  clear hput hKT hrT nT cT bT hwt hrf n4 c4 hrow4
  go_wp2_with fail
  refine HPUT.out.mono ?_
  rintro e wt2 ⟨rfl, hw⟩
  subst hw
  obtain ⟨hKT, hrT, nT, cT, bT⟩ := HTT.out
  have hgT : ∀ j, (f j || j == p) = (f j || (decide (j = p) && (decide (m ≤ c) || (semT s t).ends p 0 had p))) := fun j => by
   have eb : (j == p) = decide (j = p) := rfl
   rw [eb]
   simp [hmc]
  have hmT := True.intro
  clear HPUT m7 HTT
  by_cases hM : (c : Int) = M
  ·have hMb : ((c : Int) == M) = true := by simpa using hM
   clear hmT
   have m8 : wt2.cell? ⟨w.heap.size + 1, 8, none⟩ = some (.int .i64 M) := nT.cell 8
   have HALL := Lib.hid (And.intro hrT (And.intro hgT hKT))
   clear nT hrT hgT hKT bT
   go_wp2
   first | go_end0 | refine bodyPost_ret (results_none rfl _ _ _) rfl ?_
   first
   | refine ⟨fs, rfl, ?_, HW4.out.2.2.2.1, HX.out.keeps HW4.out.2.1 (HALL.out.2.2.mono (fun i _ e => e ▸ hfb)), ((HK2.out _).trans (HW4.out.2.2.1.mono (fun i _ e => .inl e))).trans (HALL.out.2.2.mono (fun i _ e => .inr e))⟩
   | refine ⟨rfl, ?_, fs, HW4.out.2.2.2.1, HX.out.keeps HW4.out.2.1 (HALL.out.2.2.mono (fun i _ e => e ▸ hfb)), ((HK2.out _).trans (HW4.out.2.2.1.mono (fun i _ e => .inl e))).trans (HALL.out.2.2.mono (fun i _ e => .inr e))⟩
   have e : (fun i => f i || i == p) = (fun j => f j || (semT s (.times m M t)).ends p c had j) := by
    funext j
    rw [HALL.out.2.1 j, HEN.out c had j, agn_step hp]
    simp [hM]
   rw [← e]
   exact HALL.out.1
  ·have hMb : ((c : Int) == M) = false := by rw [beq_eq_false_iff_ne]; exact hM
   have m8 : wt2.cell? ⟨w.heap.size + 1, 8, none⟩ = some (.int .i64 M) := nT.cell 8
   have m5 : wt2.cell? ⟨w.heap.size + 1, 5, none⟩ = some (.int .i64 (q : Int)) := nT.cell 5
   obtain ⟨k0, k1, k2, k3, k4, k5, k6, k7, k8, k9⟩ := capBlk.ten (w := wt2) (b := w.heap.size) (had := had) cT
   have hJT := HX.out.keeps HW4.out.2.1 (hKT.mono (fun i _ e => e ▸ hfb))
   have hszT := hKT.size
   have hszw := HW4.out.2.2.1.size
   have hcall := HLV.out had E fs wt2 HB2.out.2.2.1 hJT (fun b hb => by have := HB2.out.2.1 b hb; omega)
   unfold capV at hcall
   have HCALL := Lib.hid hcall
   have HALL := Lib.hid (And.intro hrT (And.intro hgT (And.intro hKT (And.intro nT (And.intro bT hJT)))))
   clear hcall nT hrT hgT hKT bT hJT
   go_wp2_with fail
   refine HCALL.out.mono ?_
   rintro e w5 ⟨K, cap, rfl, hk5, hLC⟩
   have hJ5 := HX.out.keeps HALL.out.2.2.2.2.2 (hk5 _)
   have HFR0 := Lib.hid (HFR.out (p + 1) (by omega) w5 (HX.out.iv hJ5).tab (HALL.out.2.2.2.2.1.keeps (hk5 (fun _ => False)) id))
   rw [show ((p + 1 : Nat) : Int) = (p : Int) + 1 from by omega] at HFR0
   have HW5 := Lib.hid (And.intro hJ5 (And.intro hk5 hLC))
   clear hJ5 hk5 hLC m5 m8 k0 k1 k2 k3 k4 k5 k6 k7 k8 k9 HCALL
   go_wp2_with fail
   refine HFR0.out.mono ?_
   rintro e w6 ⟨⟨r, rfl, hr⟩, hw⟩
   subst hw
   have HR := Lib.hid hr
   clear hr HFR0
   go_wp2
   go_loopw [15] (fun kv wr => ∃ (r : Int) (k0 : Nat) (gs : List Lit) (g : Nat → Bool), kv = .int .i64 r ∧ p + 1 ≤ k0 ∧ IsFrom (fun j => (semT s t).ends p 0 had j) k0 r ∧ fs <+: gs ∧ J E gs wr ∧ PRow wr fb (s.length / 64 + 1) g ∧ (∀ j, (g j || anyR k0 s.length (agnK s (semT s t) m M p c had j)) = (((fun i => f i || i == p)) j || anyR (p + 1) s.length (agnK s (semT s t) m M p c had j))) ∧ Keeps (fun b => (Mt v b ∨ M2 b) ∨ b = fb) w6 wr) (fun kv _ => msr s.length (RowKit.intOf kv))
   case atStart => exact ⟨r, p + 1, fs, _, rfl, Nat.le_refl _, HR.out, List.prefix_refl _, HW5.out.1, HALL.out.1.keeps (HW5.out.2.1 (fun _ => False)) id, fun j => rfl, Keeps.refl _ _⟩
   case round =>
    obtain ⟨r2, k0, gs, g, rfl, hk0, hr2, hpre, hJr, hrow, hg, hK⟩ := hrel
    rcases hr2 with ⟨rfl, hnn⟩ | ⟨k, rfl, hk1, hk2, hk3⟩
    ·have HA2 := Lib.hid (And.intro hpre (And.intro hJr (And.intro hrow hK)))
     have HG2 := Lib.hid (And.intro hg hnn)
     clear hpre hJr hrow hK hg hnn
     go_wp2
     first | go_end0 | refine bodyPost_ret (results_none rfl _ _ _) rfl ?_
     have hKK : Keeps (fun b => (Mt v b ∨ M2 b) ∨ b = fb) w wr := ((((HK2.out _).trans (HW4.out.2.2.1.mono (fun i _ e => .inl e))).trans (HALL.out.2.2.1.mono (fun i _ e => .inr e))).trans (HW5.out.2.1 _)).trans HA2.out.2.2.2
     first
     | refine ⟨gs, rfl, ?_, HW4.out.2.2.2.1.trans HA2.out.1, HA2.out.2.1, hKK⟩
     | refine ⟨rfl, ?_, gs, HW4.out.2.2.2.1.trans HA2.out.1, HA2.out.2.1, hKK⟩
     have e : g = (fun j => f j || (semT s (.times m M t)).ends p c had j) := by
      funext j
      have h1 := HG2.out.1 j
      rw [any_none (k0 := k0) (fun i hi => by unfold agnK; rw [HG2.out.2 i hi]; rfl), Bool.or_false] at h1
      rw [h1, HEN.out c had j, agn_step hp, ← Bool.or_assoc, ← HALL.out.2.1 j]
      simp only [ne_eq, hM, not_false_eq_true, decide_true, Bool.true_and]
      rfl
     rw [← e]
     exact HA2.out.2.2.1
    ·have hkl := (HSA.out.le p 0 had k HB2.out.2.2.1 hp hk2).2
     have hsz := hK.size
     have hsz5 := (HW5.out.2.1 (fun _ => False)).size
     have hno : ∀ i, w.heap.size ≤ i → ¬ ((Mt v i ∨ M2 i) ∨ i = fb) := fun i hi e => by
      rcases e with (e | e) | e
      ·rcases e with e | e | e <;> omega
      ·have := HM2.out i e; omega
      ·omega
     have n5 := (HALL.out.2.2.2.1.keeps (HW5.out.2.1 (fun _ => False)) id).keeps hK (hno _ (by omega))
     have m0 : wr.cell? ⟨w.heap.size + 1, 0, none⟩ = some (.int .i64 6) := n5.cell 0
     have m1 : wr.cell? ⟨w.heap.size + 1, 1, none⟩ = some (.int .u64 0) := n5.cell 1
     have m2 : wr.cell? ⟨w.heap.size + 1, 2, none⟩ = some (.int .u64 0) := n5.cell 2
     have m3 : wr.cell? ⟨w.heap.size + 1, 3, none⟩ = some (.int .u64 0) := n5.cell 3
     have m4 : wr.cell? ⟨w.heap.size + 1, 4, none⟩ = some (.int .u64 0) := n5.cell 4
     have m5 : wr.cell? ⟨w.heap.size + 1, 5, none⟩ = some (.int .i64 (q : Int)) := n5.cell 5
     have m6 : wr.cell? ⟨w.heap.size + 1, 6, none⟩ = some (.int .i64 0) := n5.cell 6
     have m7 : wr.cell? ⟨w.heap.size + 1, 7, none⟩ = some (.int .i64 m) := n5.cell 7
     have m8 : wr.cell? ⟨w.heap.size + 1, 8, none⟩ = some (.int .i64 M) := n5.cell 8
     have m9 : wr.cell? ⟨w.heap.size + 1, 9, none⟩ = some (.int .i64 0) := n5.cell 9
     have hone := onemore_c ⟨6, 0, 0, 0, 0, (q : Int), 0, m, M, 0⟩ c (by omega) hm wr
     unfold ndV at hone
     simp only at hone
     obtain ⟨c', hc'⟩ : ∃ c', c' = oneMore m M c := ⟨_, rfl⟩
     rw [← hc'] at hone
     have HCC := Lib.hid hc'
     have HONE := Lib.hid hone
     have HALL2 := Lib.hid (And.intro hpre (And.intro hK (And.intro hJr hrow)))
     have HG2 := Lib.hid (And.intro hg (And.intro hk2 hk3))
     clear hone hc' hpre hK hg hJr hrow n5 hk2 hk3
     go_wp2_with fail
     refine HONE.out.mono ?_
     rintro e w7 ⟨rfl, hB7⟩
     clear HONE m0 m1 m2 m3 m4 m5 m6 m7 m8 m9
     have hK7 : ∀ S, Keeps S wr w7 := fun S => Keeps.of_below hB7
     have hsz7 := (hK7 (fun _ => False)).size
     have hcc : c' ≤ B ∧ CntOk (.times m M t) c' := by
      have h1 := HB2.out.2.2.2.2
      have h2 := HCC.out
      unfold CntOk at h1 ⊢
      unfold oneMore at h2
      simp only at h1 ⊢
      by_cases hM1 : M = -1
      ·rw [if_pos hM1] at h1 h2 ⊢
       omega
      ·rw [if_neg hM1] at h1 h2 ⊢
       omega
     have hcall := HG.out k (by omega) hkl c' (leftS (semT s t) (semT s t).asked p had k) E gs w7 fb g K cap hcc.1 hcc.2 (HSA.out.left_cap HB2.out.2.2.1 (by omega) hkl) (HX.out.keeps HALL2.out.2.2.1 (hK7 _)) (fun b hb => by
      have := HB2.out.2.1 b hb
      omega) hfb (HALL2.out.2.2.2.keeps (hK7 (fun _ => False)) id) ((HW5.out.2.2 k (by omega) hkl).mono HALL2.out.1 ((HALL2.out.2.1.mono (fun i _ e => e.elim .inl (fun q => .inr (by subst q; exact hfb)))).trans (hK7 _)))
     unfold PV at hcall
     have HCALL := Lib.hid hcall
     have HK7 := Lib.hid hK7
     clear hcall hno hcc hB7 hK7
     go_wp2_with fail
     refine HCALL.out.mono ?_
     rintro e w8 ⟨hs, rfl, hrow8, hpre8, hJ8, hk8⟩
     have hbn : ¬ ((Mt v b ∨ M2 b) ∨ b = fb) := fun e => by
      rcases e with (e | e) | e
      ·exact HBM.out.2 e
      ·exact HBM.out.1 e
      ·exact hbf e
     have hbr : PRow w8 b (s.length / 64 + 1) (fun j => (semT s t).ends p 0 had j) := (((HALL.out.2.2.2.2.1.keeps (HW5.out.2.1 (fun _ => False)) id).keeps HALL2.out.2.1 hbn).keeps (HK7.out (fun _ => False)) id).keeps hk8 hbn
     have hfr := HFR.out (k + 1) (by omega) w8 (HX.out.iv hJ8).tab hbr
     rw [show ((k + 1 : Nat) : Int) = (k : Int) + 1 from by omega] at hfr
     have HFR2 := Lib.hid hfr
     have HEND := Lib.hid (And.intro hrow8 (And.intro hpre8 (And.intro hJ8 hk8)))
     clear hfr hbr hbn hrow8 hpre8 hJ8 hk8 HCALL
     go_wp2_with fail
     refine HFR2.out.mono ?_
     rintro e w9 ⟨⟨r3, rfl, hr3⟩, hw⟩
     subst hw
     have hr4 : r3 = -1 ∨ (k : Int) + 1 ≤ r3 := by
      rcases hr3 with ⟨e, _⟩ | ⟨k', e, h, _⟩
      ·exact .inl e
      ·exact .inr (by omega)
     have HR3 := Lib.hid hr3
     clear hr3 HFR2
     go_wp2
     go_roundw
     case rel =>
      refine ⟨r3, k + 1, hs, _, rfl, by omega, HR3.out, HALL2.out.1.trans HEND.out.2.1, HEND.out.2.2.1, HEND.out.1, fun j => ?_, (HALL2.out.2.1.trans (HK7.out _)).trans HEND.out.2.2.2⟩
      rw [← HG2.out.1 j, any_step hk1 hkl (fun i h1 h2 => by unfold agnK; rw [HG2.out.2.2 i h1 h2]; rfl), Bool.or_assoc]
      congr 2
      unfold agnK
      rw [HG2.out.2.1, Bool.true_and, HENK.out, HCC.out]
     case measure => exact msr_lt hkl hr4
 ·have HHAS := Lib.hid (has_m b (s.length / 64 + 1) (s.length / 64 + 1) p _ (by omega) (by omega) w4 hrow4)
  go_wp2_with fail
  refine HHAS.out.mono ?_
  rintro e w5h ⟨rfl, hw⟩
  subst hw
  clear HHAS
  cases hhe : (semT s t).ends p 0 had p with
  | false =>
   have hKT : Keeps (fun b => b = fb) w5h w5h := Keeps.refl _ _
   have hrT := hrf
   have nT := n4
   have cT := c4
   have bT := hrow4
   have hgT : ∀ j, f j = (f j || (decide (j = p) && (decide (m ≤ c) || (semT s t).ends p 0 had p))) := fun j => by
    rw [hhe, decide_eq_false (show ¬ m ≤ (c : Int) by omega)]
    simp
   have hmT := True.intro
   clear m7 hrf n4 c4 hrow4 hhe
   by_cases hM : (c : Int) = M
   ·have hMb : ((c : Int) == M) = true := by simpa using hM
    clear hmT
    have m8 : w5h.cell? ⟨w.heap.size + 1, 8, none⟩ = some (.int .i64 M) := nT.cell 8
    have HALL := Lib.hid (And.intro hrT (And.intro hgT hKT))
    clear nT hrT hgT hKT bT
    go_wp2
    first | go_end0 | refine bodyPost_ret (results_none rfl _ _ _) rfl ?_
    first
    | refine ⟨fs, rfl, ?_, HW4.out.2.2.2.1, HX.out.keeps HW4.out.2.1 (HALL.out.2.2.mono (fun i _ e => e ▸ hfb)), ((HK2.out _).trans (HW4.out.2.2.1.mono (fun i _ e => .inl e))).trans (HALL.out.2.2.mono (fun i _ e => .inr e))⟩
    | refine ⟨rfl, ?_, fs, HW4.out.2.2.2.1, HX.out.keeps HW4.out.2.1 (HALL.out.2.2.mono (fun i _ e => e ▸ hfb)), ((HK2.out _).trans (HW4.out.2.2.1.mono (fun i _ e => .inl e))).trans (HALL.out.2.2.mono (fun i _ e => .inr e))⟩
    have e : f = (fun j => f j || (semT s (.times m M t)).ends p c had j) := by
     funext j
     rw [HALL.out.2.1 j, HEN.out c had j, agn_step hp]
     simp [hM]
    rw [← e]
    exact HALL.out.1
   ·have hMb : ((c : Int) == M) = false := by rw [beq_eq_false_iff_ne]; exact hM
    have m8 : w5h.cell? ⟨w.heap.size + 1, 8, none⟩ = some (.int .i64 M) := nT.cell 8
    have m5 : w5h.cell? ⟨w.heap.size + 1, 5, none⟩ = some (.int .i64 (q : Int)) := nT.cell 5
    obtain ⟨k0, k1, k2, k3, k4, k5, k6, k7, k8, k9⟩ := capBlk.ten (w := w5h) (b := w.heap.size) (had := had) cT
    have hJT := HX.out.keeps HW4.out.2.1 (hKT.mono (fun i _ e => e ▸ hfb))
    have hszT := hKT.size
    have hszw := HW4.out.2.2.1.size
    have hcall := HLV.out had E fs w5h HB2.out.2.2.1 hJT (fun b hb => by have := HB2.out.2.1 b hb; omega)
    unfold capV at hcall
    have HCALL := Lib.hid hcall
    have HALL := Lib.hid (And.intro hrT (And.intro hgT (And.intro hKT (And.intro nT (And.intro bT hJT)))))
    clear hcall nT hrT hgT hKT bT hJT
    go_wp2_with fail
    refine HCALL.out.mono ?_
    rintro e w5 ⟨K, cap, rfl, hk5, hLC⟩
    have hJ5 := HX.out.keeps HALL.out.2.2.2.2.2 (hk5 _)
    have HFR0 := Lib.hid (HFR.out (p + 1) (by omega) w5 (HX.out.iv hJ5).tab (HALL.out.2.2.2.2.1.keeps (hk5 (fun _ => False)) id))
    rw [show ((p + 1 : Nat) : Int) = (p : Int) + 1 from by omega] at HFR0
    have HW5 := Lib.hid (And.intro hJ5 (And.intro hk5 hLC))
    clear hJ5 hk5 hLC m5 m8 k0 k1 k2 k3 k4 k5 k6 k7 k8 k9 HCALL
    go_wp2_with fail
    refine HFR0.out.mono ?_
    rintro e w6 ⟨⟨r, rfl, hr⟩, hw⟩
    subst hw
    have HR := Lib.hid hr
    clear hr HFR0
    go_wp2
    go_loopw [15] (fun kv wr => ∃ (r : Int) (k0 : Nat) (gs : List Lit) (g : Nat → Bool), kv = .int .i64 r ∧ p + 1 ≤ k0 ∧ IsFrom (fun j => (semT s t).ends p 0 had j) k0 r ∧ fs <+: gs ∧ J E gs wr ∧ PRow wr fb (s.length / 64 + 1) g ∧ (∀ j, (g j || anyR k0 s.length (agnK s (semT s t) m M p c had j)) = ((f) j || anyR (p + 1) s.length (agnK s (semT s t) m M p c had j))) ∧ Keeps (fun b => (Mt v b ∨ M2 b) ∨ b = fb) w6 wr) (fun kv _ => msr s.length (RowKit.intOf kv))
    case atStart => exact ⟨r, p + 1, fs, _, rfl, Nat.le_refl _, HR.out, List.prefix_refl _, HW5.out.1, HALL.out.1.keeps (HW5.out.2.1 (fun _ => False)) id, fun j => rfl, Keeps.refl _ _⟩
    case round =>
     obtain ⟨r2, k0, gs, g, rfl, hk0, hr2, hpre, hJr, hrow, hg, hK⟩ := hrel
     rcases hr2 with ⟨rfl, hnn⟩ | ⟨k, rfl, hk1, hk2, hk3⟩
     ·have HA2 := Lib.hid (And.intro hpre (And.intro hJr (And.intro hrow hK)))
      have HG2 := Lib.hid (And.intro hg hnn)
      clear hpre hJr hrow hK hg hnn
      go_wp2
      first | go_end0 | refine bodyPost_ret (results_none rfl _ _ _) rfl ?_
      have hKK : Keeps (fun b => (Mt v b ∨ M2 b) ∨ b = fb) w wr := ((((HK2.out _).trans (HW4.out.2.2.1.mono (fun i _ e => .inl e))).trans (HALL.out.2.2.1.mono (fun i _ e => .inr e))).trans (HW5.out.2.1 _)).trans HA2.out.2.2.2
      first
      | refine ⟨gs, rfl, ?_, HW4.out.2.2.2.1.trans HA2.out.1, HA2.out.2.1, hKK⟩
      | refine ⟨rfl, ?_, gs, HW4.out.2.2.2.1.trans HA2.out.1, HA2.out.2.1, hKK⟩
      have e : g = (fun j => f j || (semT s (.times m M t)).ends p c had j) := by
       funext j
       have h1 := HG2.out.1 j
       rw [any_none (k0 := k0) (fun i hi => by unfold agnK; rw [HG2.out.2 i hi]; rfl), Bool.or_false] at h1
       rw [h1, HEN.out c had j, agn_step hp, ← Bool.or_assoc, ← HALL.out.2.1 j]
       simp only [ne_eq, hM, not_false_eq_true, decide_true, Bool.true_and]
       rfl
      rw [← e]
      exact HA2.out.2.2.1
     ·have hkl := (HSA.out.le p 0 had k HB2.out.2.2.1 hp hk2).2
      have hsz := hK.size
      have hsz5 := (HW5.out.2.1 (fun _ => False)).size
      have hno : ∀ i, w.heap.size ≤ i → ¬ ((Mt v i ∨ M2 i) ∨ i = fb) := fun i hi e => by
       rcases e with (e | e) | e
       ·rcases e with e | e | e <;> omega
       ·have := HM2.out i e; omega
       ·omega
      have n5 := (HALL.out.2.2.2.1.keeps (HW5.out.2.1 (fun _ => False)) id).keeps hK (hno _ (by omega))
      have m0 : wr.cell? ⟨w.heap.size + 1, 0, none⟩ = some (.int .i64 6) := n5.cell 0
      have m1 : wr.cell? ⟨w.heap.size + 1, 1, none⟩ = some (.int .u64 0) := n5.cell 1
      have m2 : wr.cell? ⟨w.heap.size + 1, 2, none⟩ = some (.int .u64 0) := n5.cell 2
      have m3 : wr.cell? ⟨w.heap.size + 1, 3, none⟩ = some (.int .u64 0) := n5.cell 3
      have m4 : wr.cell? ⟨w.heap.size + 1, 4, none⟩ = some (.int .u64 0) := n5.cell 4
      have m5 : wr.cell? ⟨w.heap.size + 1, 5, none⟩ = some (.int .i64 (q : Int)) := n5.cell 5
      have m6 : wr.cell? ⟨w.heap.size + 1, 6, none⟩ = some (.int .i64 0) := n5.cell 6
      have m7 : wr.cell? ⟨w.heap.size + 1, 7, none⟩ = some (.int .i64 m) := n5.cell 7
      have m8 : wr.cell? ⟨w.heap.size + 1, 8, none⟩ = some (.int .i64 M) := n5.cell 8
      have m9 : wr.cell? ⟨w.heap.size + 1, 9, none⟩ = some (.int .i64 0) := n5.cell 9
      have hone := onemore_c ⟨6, 0, 0, 0, 0, (q : Int), 0, m, M, 0⟩ c (by omega) hm wr
      unfold ndV at hone
      simp only at hone
      obtain ⟨c', hc'⟩ : ∃ c', c' = oneMore m M c := ⟨_, rfl⟩
      rw [← hc'] at hone
      have HCC := Lib.hid hc'
      have HONE := Lib.hid hone
      have HALL2 := Lib.hid (And.intro hpre (And.intro hK (And.intro hJr hrow)))
      have HG2 := Lib.hid (And.intro hg (And.intro hk2 hk3))
      clear hone hc' hpre hK hg hJr hrow n5 hk2 hk3
      go_wp2_with fail
      refine HONE.out.mono ?_
      rintro e w7 ⟨rfl, hB7⟩
      clear HONE m0 m1 m2 m3 m4 m5 m6 m7 m8 m9
      have hK7 : ∀ S, Keeps S wr w7 := fun S => Keeps.of_below hB7
      have hsz7 := (hK7 (fun _ => False)).size
      have hcc : c' ≤ B ∧ CntOk (.times m M t) c' := by
       have h1 := HB2.out.2.2.2.2
       have h2 := HCC.out
       unfold CntOk at h1 ⊢
       unfold oneMore at h2
       simp only at h1 ⊢
       by_cases hM1 : M = -1
       ·rw [if_pos hM1] at h1 h2 ⊢
        omega
       ·rw [if_neg hM1] at h1 h2 ⊢
        omega
      have hcall := HG.out k (by omega) hkl c' (leftS (semT s t) (semT s t).asked p had k) E gs w7 fb g K cap hcc.1 hcc.2 (HSA.out.left_cap HB2.out.2.2.1 (by omega) hkl) (HX.out.keeps HALL2.out.2.2.1 (hK7 _)) (fun b hb => by
       have := HB2.out.2.1 b hb
       omega) hfb (HALL2.out.2.2.2.keeps (hK7 (fun _ => False)) id) ((HW5.out.2.2 k (by omega) hkl).mono HALL2.out.1 ((HALL2.out.2.1.mono (fun i _ e => e.elim .inl (fun q => .inr (by subst q; exact hfb)))).trans (hK7 _)))
      unfold PV at hcall
      have HCALL := Lib.hid hcall
      have HK7 := Lib.hid hK7
      clear hcall hno hcc hB7 hK7
      go_wp2_with fail
      refine HCALL.out.mono ?_
      rintro e w8 ⟨hs, rfl, hrow8, hpre8, hJ8, hk8⟩
      have hbn : ¬ ((Mt v b ∨ M2 b) ∨ b = fb) := fun e => by
       rcases e with (e | e) | e
       ·exact HBM.out.2 e
       ·exact HBM.out.1 e
       ·exact hbf e
      have hbr : PRow w8 b (s.length / 64 + 1) (fun j => (semT s t).ends p 0 had j) := (((HALL.out.2.2.2.2.1.keeps (HW5.out.2.1 (fun _ => False)) id).keeps HALL2.out.2.1 hbn).keeps (HK7.out (fun _ => False)) id).keeps hk8 hbn
      have hfr := HFR.out (k + 1) (by omega) w8 (HX.out.iv hJ8).tab hbr
      rw [show ((k + 1 : Nat) : Int) = (k : Int) + 1 from by omega] at hfr
      have HFR2 := Lib.hid hfr
      have HEND := Lib.hid (And.intro hrow8 (And.intro hpre8 (And.intro hJ8 hk8)))
      clear hfr hbr hbn hrow8 hpre8 hJ8 hk8 HCALL
      go_wp2_with fail
      refine HFR2.out.mono ?_
      rintro e w9 ⟨⟨r3, rfl, hr3⟩, hw⟩
      subst hw
      have hr4 : r3 = -1 ∨ (k : Int) + 1 ≤ r3 := by
       rcases hr3 with ⟨e, _⟩ | ⟨k', e, h, _⟩
       ·exact .inl e
       ·exact .inr (by omega)
      have HR3 := Lib.hid hr3
      clear hr3 HFR2
      go_wp2
      go_roundw
      case rel =>
       refine ⟨r3, k + 1, hs, _, rfl, by omega, HR3.out, HALL2.out.1.trans HEND.out.2.1, HEND.out.2.2.1, HEND.out.1, fun j => ?_, (HALL2.out.2.1.trans (HK7.out _)).trans HEND.out.2.2.2⟩
       rw [← HG2.out.1 j, any_step hk1 hkl (fun i h1 h2 => by unfold agnK; rw [HG2.out.2.2 i h1 h2]; rfl), Bool.or_assoc]
       congr 2
       unfold agnK
       rw [HG2.out.2.1, Bool.true_and, HENK.out, HCC.out]
      case measure => exact msr_lt hkl hr4
  | true =>
   have hput := put_m fb (s.length / 64 + 1) (s.length / 64 + 1) p f (by omega) (by omega) w5h hrf
   obtain ⟨wt, hwt⟩ : ∃ wt, wt = (w5h.setCell ⟨fb, p / 64, none⟩ (.int .u64 (wd (fun i => f i || i == p) (p / 64)))).drew := ⟨_, rfl⟩
   have hKT : Keeps (fun b => b = fb) w5h wt := by rw [hwt]; exact put_keeps w5h fb _ _
   have hrT : PRow wt fb (s.length / 64 + 1) (fun i => f i || i == p) := by rw [hwt]; exact (hrf.put p).drew
   have nT := n4.keeps hKT (by omega)
   have cT := c4.keeps hKT (by omega)
   have bT := hrow4.keeps hKT hbf
   rw [← hwt] at hput
   have HPUT := Lib.hid hput
   have HTT := Lib.hid (And.intro hKT (And.intro hrT (And.intro nT (And.intro cT bT))))
   have HHE := Lib.hid hhe
   clear hput hKT hrT nT cT bT hwt hrf n4 c4 hrow4 hhe
   go_wp2_with fail
   refine HPUT.out.mono ?_
   rintro e wt2 ⟨rfl, hw⟩
   subst hw
   obtain ⟨hKT, hrT, nT, cT, bT⟩ := HTT.out
   have hgT : ∀ j, (f j || j == p) = (f j || (decide (j = p) && (decide (m ≤ c) || (semT s t).ends p 0 had p))) := fun j => by
    have eb : (j == p) = decide (j = p) := rfl
    rw [eb, HHE.out]
    simp
   have hmT := True.intro
   clear HPUT m7 HTT
   by_cases hM : (c : Int) = M
   ·have hMb : ((c : Int) == M) = true := by simpa using hM
    clear hmT
    have m8 : wt2.cell? ⟨w.heap.size + 1, 8, none⟩ = some (.int .i64 M) := nT.cell 8
    have HALL := Lib.hid (And.intro hrT (And.intro hgT hKT))
    clear nT hrT hgT hKT bT
    go_wp2
    first | go_end0 | refine bodyPost_ret (results_none rfl _ _ _) rfl ?_
    first
    | refine ⟨fs, rfl, ?_, HW4.out.2.2.2.1, HX.out.keeps HW4.out.2.1 (HALL.out.2.2.mono (fun i _ e => e ▸ hfb)), ((HK2.out _).trans (HW4.out.2.2.1.mono (fun i _ e => .inl e))).trans (HALL.out.2.2.mono (fun i _ e => .inr e))⟩
    | refine ⟨rfl, ?_, fs, HW4.out.2.2.2.1, HX.out.keeps HW4.out.2.1 (HALL.out.2.2.mono (fun i _ e => e ▸ hfb)), ((HK2.out _).trans (HW4.out.2.2.1.mono (fun i _ e => .inl e))).trans (HALL.out.2.2.mono (fun i _ e => .inr e))⟩
    have e : (fun i => f i || i == p) = (fun j => f j || (semT s (.times m M t)).ends p c had j) := by
     funext j
     rw [HALL.out.2.1 j, HEN.out c had j, agn_step hp]
     simp [hM]
    rw [← e]
    exact HALL.out.1
   ·have hMb : ((c : Int) == M) = false := by rw [beq_eq_false_iff_ne]; exact hM
    have m8 : wt2.cell? ⟨w.heap.size + 1, 8, none⟩ = some (.int .i64 M) := nT.cell 8
    have m5 : wt2.cell? ⟨w.heap.size + 1, 5, none⟩ = some (.int .i64 (q : Int)) := nT.cell 5
    obtain ⟨k0, k1, k2, k3, k4, k5, k6, k7, k8, k9⟩ := capBlk.ten (w := wt2) (b := w.heap.size) (had := had) cT
    have hJT := HX.out.keeps HW4.out.2.1 (hKT.mono (fun i _ e => e ▸ hfb))
    have hszT := hKT.size
    have hszw := HW4.out.2.2.1.size
    have hcall := HLV.out had E fs wt2 HB2.out.2.2.1 hJT (fun b hb => by have := HB2.out.2.1 b hb; omega)
    unfold capV at hcall
    have HCALL := Lib.hid hcall
    have HALL := Lib.hid (And.intro hrT (And.intro hgT (And.intro hKT (And.intro nT (And.intro bT hJT)))))
    clear hcall nT hrT hgT hKT bT hJT
    go_wp2_with fail
    refine HCALL.out.mono ?_
    rintro e w5 ⟨K, cap, rfl, hk5, hLC⟩
    have hJ5 := HX.out.keeps HALL.out.2.2.2.2.2 (hk5 _)
    have HFR0 := Lib.hid (HFR.out (p + 1) (by omega) w5 (HX.out.iv hJ5).tab (HALL.out.2.2.2.2.1.keeps (hk5 (fun _ => False)) id))
    rw [show ((p + 1 : Nat) : Int) = (p : Int) + 1 from by omega] at HFR0
    have HW5 := Lib.hid (And.intro hJ5 (And.intro hk5 hLC))
    clear hJ5 hk5 hLC m5 m8 k0 k1 k2 k3 k4 k5 k6 k7 k8 k9 HCALL
    go_wp2_with fail
    refine HFR0.out.mono ?_
    rintro e w6 ⟨⟨r, rfl, hr⟩, hw⟩
    subst hw
    have HR := Lib.hid hr
    clear hr HFR0
    go_wp2
    go_loopw [15] (fun kv wr => ∃ (r : Int) (k0 : Nat) (gs : List Lit) (g : Nat → Bool), kv = .int .i64 r ∧ p + 1 ≤ k0 ∧ IsFrom (fun j => (semT s t).ends p 0 had j) k0 r ∧ fs <+: gs ∧ J E gs wr ∧ PRow wr fb (s.length / 64 + 1) g ∧ (∀ j, (g j || anyR k0 s.length (agnK s (semT s t) m M p c had j)) = (((fun i => f i || i == p)) j || anyR (p + 1) s.length (agnK s (semT s t) m M p c had j))) ∧ Keeps (fun b => (Mt v b ∨ M2 b) ∨ b = fb) w6 wr) (fun kv _ => msr s.length (RowKit.intOf kv))
    case atStart => exact ⟨r, p + 1, fs, _, rfl, Nat.le_refl _, HR.out, List.prefix_refl _, HW5.out.1, HALL.out.1.keeps (HW5.out.2.1 (fun _ => False)) id, fun j => rfl, Keeps.refl _ _⟩
    case round =>
     obtain ⟨r2, k0, gs, g, rfl, hk0, hr2, hpre, hJr, hrow, hg, hK⟩ := hrel
     rcases hr2 with ⟨rfl, hnn⟩ | ⟨k, rfl, hk1, hk2, hk3⟩
     ·have HA2 := Lib.hid (And.intro hpre (And.intro hJr (And.intro hrow hK)))
      have HG2 := Lib.hid (And.intro hg hnn)
      clear hpre hJr hrow hK hg hnn
      go_wp2
      first | go_end0 | refine bodyPost_ret (results_none rfl _ _ _) rfl ?_
      have hKK : Keeps (fun b => (Mt v b ∨ M2 b) ∨ b = fb) w wr := ((((HK2.out _).trans (HW4.out.2.2.1.mono (fun i _ e => .inl e))).trans (HALL.out.2.2.1.mono (fun i _ e => .inr e))).trans (HW5.out.2.1 _)).trans HA2.out.2.2.2
      first
      | refine ⟨gs, rfl, ?_, HW4.out.2.2.2.1.trans HA2.out.1, HA2.out.2.1, hKK⟩
      | refine ⟨rfl, ?_, gs, HW4.out.2.2.2.1.trans HA2.out.1, HA2.out.2.1, hKK⟩
      have e : g = (fun j => f j || (semT s (.times m M t)).ends p c had j) := by
       funext j
       have h1 := HG2.out.1 j
       rw [any_none (k0 := k0) (fun i hi => by unfold agnK; rw [HG2.out.2 i hi]; rfl), Bool.or_false] at h1
       rw [h1, HEN.out c had j, agn_step hp, ← Bool.or_assoc, ← HALL.out.2.1 j]
       simp only [ne_eq, hM, not_false_eq_true, decide_true, Bool.true_and]
       rfl
      rw [← e]
      exact HA2.out.2.2.1
     ·have hkl := (HSA.out.le p 0 had k HB2.out.2.2.1 hp hk2).2
      have hsz := hK.size
      have hsz5 := (HW5.out.2.1 (fun _ => False)).size
      have hno : ∀ i, w.heap.size ≤ i → ¬ ((Mt v i ∨ M2 i) ∨ i = fb) := fun i hi e => by
       rcases e with (e | e) | e
       ·rcases e with e | e | e <;> omega
       ·have := HM2.out i e; omega
       ·omega
      have n5 := (HALL.out.2.2.2.1.keeps (HW5.out.2.1 (fun _ => False)) id).keeps hK (hno _ (by omega))
      have m0 : wr.cell? ⟨w.heap.size + 1, 0, none⟩ = some (.int .i64 6) := n5.cell 0
      have m1 : wr.cell? ⟨w.heap.size + 1, 1, none⟩ = some (.int .u64 0) := n5.cell 1
      have m2 : wr.cell? ⟨w.heap.size + 1, 2, none⟩ = some (.int .u64 0) := n5.cell 2
      have m3 : wr.cell? ⟨w.heap.size + 1, 3, none⟩ = some (.int .u64 0) := n5.cell 3
      have m4 : wr.cell? ⟨w.heap.size + 1, 4, none⟩ = some (.int .u64 0) := n5.cell 4
      have m5 : wr.cell? ⟨w.heap.size + 1, 5, none⟩ = some (.int .i64 (q : Int)) := n5.cell 5
      have m6 : wr.cell? ⟨w.heap.size + 1, 6, none⟩ = some (.int .i64 0) := n5.cell 6
      have m7 : wr.cell? ⟨w.heap.size + 1, 7, none⟩ = some (.int .i64 m) := n5.cell 7
      have m8 : wr.cell? ⟨w.heap.size + 1, 8, none⟩ = some (.int .i64 M) := n5.cell 8
      have m9 : wr.cell? ⟨w.heap.size + 1, 9, none⟩ = some (.int .i64 0) := n5.cell 9
      have hone := onemore_c ⟨6, 0, 0, 0, 0, (q : Int), 0, m, M, 0⟩ c (by omega) hm wr
      unfold ndV at hone
      simp only at hone
      obtain ⟨c', hc'⟩ : ∃ c', c' = oneMore m M c := ⟨_, rfl⟩
      rw [← hc'] at hone
      have HCC := Lib.hid hc'
      have HONE := Lib.hid hone
      have HALL2 := Lib.hid (And.intro hpre (And.intro hK (And.intro hJr hrow)))
      have HG2 := Lib.hid (And.intro hg (And.intro hk2 hk3))
      clear hone hc' hpre hK hg hJr hrow n5 hk2 hk3
      go_wp2_with fail
      refine HONE.out.mono ?_
      rintro e w7 ⟨rfl, hB7⟩
      clear HONE m0 m1 m2 m3 m4 m5 m6 m7 m8 m9
      have hK7 : ∀ S, Keeps S wr w7 := fun S => Keeps.of_below hB7
      have hsz7 := (hK7 (fun _ => False)).size
      have hcc : c' ≤ B ∧ CntOk (.times m M t) c' := by
       have h1 := HB2.out.2.2.2.2
       have h2 := HCC.out
       unfold CntOk at h1 ⊢
       unfold oneMore at h2
       simp only at h1 ⊢
       by_cases hM1 : M = -1
       ·rw [if_pos hM1] at h1 h2 ⊢
        omega
       ·rw [if_neg hM1] at h1 h2 ⊢
        omega
      have hcall := HG.out k (by omega) hkl c' (leftS (semT s t) (semT s t).asked p had k) E gs w7 fb g K cap hcc.1 hcc.2 (HSA.out.left_cap HB2.out.2.2.1 (by omega) hkl) (HX.out.keeps HALL2.out.2.2.1 (hK7 _)) (fun b hb => by
       have := HB2.out.2.1 b hb
       omega) hfb (HALL2.out.2.2.2.keeps (hK7 (fun _ => False)) id) ((HW5.out.2.2 k (by omega) hkl).mono HALL2.out.1 ((HALL2.out.2.1.mono (fun i _ e => e.elim .inl (fun q => .inr (by subst q; exact hfb)))).trans (hK7 _)))
      unfold PV at hcall
      have HCALL := Lib.hid hcall
      have HK7 := Lib.hid hK7
      clear hcall hno hcc hB7 hK7
      go_wp2_with fail
      refine HCALL.out.mono ?_
      rintro e w8 ⟨hs, rfl, hrow8, hpre8, hJ8, hk8⟩
      have hbn : ¬ ((Mt v b ∨ M2 b) ∨ b = fb) := fun e => by
       rcases e with (e | e) | e
       ·exact HBM.out.2 e
       ·exact HBM.out.1 e
       ·exact hbf e
      have hbr : PRow w8 b (s.length / 64 + 1) (fun j => (semT s t).ends p 0 had j) := (((HALL.out.2.2.2.2.1.keeps (HW5.out.2.1 (fun _ => False)) id).keeps HALL2.out.2.1 hbn).keeps (HK7.out (fun _ => False)) id).keeps hk8 hbn
      have hfr := HFR.out (k + 1) (by omega) w8 (HX.out.iv hJ8).tab hbr
      rw [show ((k + 1 : Nat) : Int) = (k : Int) + 1 from by omega] at hfr
      have HFR2 := Lib.hid hfr
      have HEND := Lib.hid (And.intro hrow8 (And.intro hpre8 (And.intro hJ8 hk8)))
      clear hfr hbr hbn hrow8 hpre8 hJ8 hk8 HCALL
      go_wp2_with fail
      refine HFR2.out.mono ?_
      rintro e w9 ⟨⟨r3, rfl, hr3⟩, hw⟩
      subst hw
      have hr4 : r3 = -1 ∨ (k : Int) + 1 ≤ r3 := by
       rcases hr3 with ⟨e, _⟩ | ⟨k', e, h, _⟩
       ·exact .inl e
       ·exact .inr (by omega)
      have HR3 := Lib.hid hr3
      clear hr3 HFR2
      go_wp2
      go_roundw
      case rel =>
       refine ⟨r3, k + 1, hs, _, rfl, by omega, HR3.out, HALL2.out.1.trans HEND.out.2.1, HEND.out.2.2.1, HEND.out.1, fun j => ?_, (HALL2.out.2.1.trans (HK7.out _)).trans HEND.out.2.2.2⟩
       rw [← HG2.out.1 j, any_step hk1 hkl (fun i h1 h2 => by unfold agnK; rw [HG2.out.2.2 i h1 h2]; rfl), Bool.or_assoc]
       congr 2
       unfold agnK
       rw [HG2.out.2.1, Bool.true_and, HENK.out, HCC.out]
      case measure => exact msr_lt hkl hr4
end
end Go.Proofs.YtgllmhheahlpjaaGreatDoor
namespace Go.Proofs.YtgllmhheahlpjaaGreatDoor
open Go.RowKit Go.Maps Go.WideMaps
section
variable {X : Nat} {v : TrV} {s : List UInt8} {xs : List Nd} {B : Nat} {c1 : Lit → Nat} {n1 : Nat} {P1 : Lit → Prop} {c2 : Lit → Nat} {n2 : Nat} {E E' : Nat → Prop} {es : List Lit} {w w' : World}
theorem Iv.upLeft (h : Iv X v s xs B c1 n1 P1 c2 n2 E es w) (fx : Fx v s xs B P1) {n p j q : Nat} {t : T} {had : Cp} {L L' : Lit → Option Value}
  (h2 : ∀ (n p j q : Nat) (u : Value), (n < v.n ∧ p ≤ s.length ∧ j ≤ B ∧ q ≤ n1) → L (stK n p j q) = some u → ∃ (t : T) (had : Cp), Sub (fun i => xs[i]?) t n ∧ CapOk s.length had ∧ nOf es (semT s t).asked had = some q ∧ u = capV ((semT s t).walk p j (onlyC had (semT s t).asked)))
  (hk : Keeps (fun b => b = v.bl) w w') (hm : MapA 142 w' v.bl c2 n2 (okS v.n s.length B n1) L') (hL' : ∀ l, l ≠ stK n p j q → L' l = L l) (hLn : ∀ u, L' (stK n p j q) = some u → u = capV ((semT s t).walk p j (onlyC had (semT s t).asked)))
  (hr : n < v.n ∧ p ≤ s.length ∧ j ≤ B ∧ q ≤ n1) (ht : Sub (fun i => xs[i]?) t n) (hc : CapOk s.length had) (hn : nOf es (semT s t).asked had = some q) : Iv X v s xs B c1 n1 P1 c2 n2 E es w' := by
 obtain ⟨l1, l2, l3, l4, l5, l6, l7⟩ := h.lts
 obtain ⟨L0, h1, _⟩ := h.left
 obtain ⟨a1, a2, a3, a4, a5⟩ := h.apart fx h1
 obtain ⟨F, hF, hF2⟩ := h.roles
 obtain ⟨L2, h3, h4⟩ := h.reach
 obtain ⟨e1, e2, e3⟩ := h.ne
 have hmx := h.nums.max
 have emx : maxLen = 9223372036854775807 := by decide
 have hB3 := fx.B3; have hn2 := fx.n2; have hsl := fx.sl
 refine ⟨⟨(hk.block _ l1 a1).trans h.tr.heap⟩, h.nodes.heap_ok (hk.block _ l2 a2), ⟨F, ⟨(hk.block _ l3 a3).trans hF.heap⟩, hF2⟩, fun i hi => ?_, h.nd, h.ky, h.nums.of_heap (hk.block _ l4 e2), ⟨L2, h3.of_heap (hk.block _ l5 e3), fun n' p' c' q' u hr' hu => ?_⟩, ⟨L', hm, fun n' p' j' q' u hr' hu => ?_⟩, h.out, h.ne⟩
 ·have e := hk.block _ l7 a4
  have := h.tab i hi
  rw [← this]
  simp only [World.cell?, e]
 ·obtain ⟨b', t', had', b1, b2, b3, b4, b5, b6, b7⟩ := h4 n' p' c' q' u hr' hu
  exact ⟨b', t', had', b1, b2, b3, b4, b5, b6, b7.heap_ok (hk.block _ b7.lt (a5 _ _ _ b7))⟩
 ·by_cases e : stK n' p' j' q' = stK n p j q
  ·obtain ⟨i1, i2, i3, i4⟩ := state_inj (nat_wf (by omega)) (nat_wf (by omega)) (nat_wf (by omega)) (nat_wf (by omega)) (nat_wf (by omega)) (nat_wf (by omega)) (nat_wf (by omega)) (nat_wf (by omega)) e
   obtain rfl : n' = n := by omega
   obtain rfl : p' = p := by omega
   obtain rfl : j' = j := by omega
   obtain rfl : q' = q := by omega
   exact ⟨t, had, ht, hc, hn, hLn u hu⟩
  ·rw [hL' _ e] at hu
   exact h2 n' p' j' q' u hr' hu
end
end Go.Proofs.YtgllmhheahlpjaaGreatDoor
