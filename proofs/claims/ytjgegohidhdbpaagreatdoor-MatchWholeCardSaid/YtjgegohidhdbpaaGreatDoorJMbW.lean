/- A trial: stateOf. -/
import Derived.Test.YtjgegohidhdbpaaGreatDoorJMbV
import Derived.Deep.RegionHeld3
import Derived.Laws.Rows
open Go.Proofs.Tryz
set_option linter.unusedVariables false
set_option linter.unusedSimpArgs false
set_option maxRecDepth 100000
set_option maxHeartbeats 40000000
namespace Go.Proofs.YtjgegohidhdbpaaGreatDoor
open Go.RowKit Go.Maps Go.WideMaps Go.Proofs.YtjgegohidhdbpaaGreatDoor.Fl
def frO : Option (Nat × Nat) → Int
 | some (a, _) => a
 | none => -1
def toO : Option (Nat × Nat) → Int
 | some (_, b) => b
 | none => -1
theorem KP (a b : Nat) (h1 : a ≤ b) (h2 : b ≤ 999999999) : sp (floatOfInt .f64 (a : Int)) (floatOfInt .f64 (b : Int)) = some ((a : Int), (b : Int)) := by
 have hv : ∀ a : Nat, a ≤ 999999999 → val (floatOfInt .f64 (a : Int)) = some (a : Int) := fun a h => zX (by have : (2 : Nat) ^ 53 = 9007199254740992 := rfl; omega)
 exact JM (hv a (by omega)) (hv b h2) (by omega) (by omega) (by omega)
theorem qgm (o : Option (Nat × Nat)) (Qt : ∀ a b, o = some (a, b) → a ≤ b ∧ b ≤ 999999999) (w : World) : Calls prog 46 #[qj o] w fun e w' => e = .returned (.int .i64 (frO o)) ∧ w' = w := by
 cases o with
 | none =>
  refine (qat qf qf w (by unfold sp; rw [yR]; rfl)).mono ?_
  rintro e w' ⟨h1, h2⟩; exact ⟨h1, h2.symm⟩
 | some p =>
  obtain ⟨a, b⟩ := p
  obtain ⟨h1, h2⟩ := Qt a b rfl
  refine (J3 _ _ a b w (KP a b h1 h2)).mono ?_
  rintro e w' ⟨h1, h2⟩; exact ⟨h1, h2.symm⟩
theorem qlq (o : Option (Nat × Nat)) (Qt : ∀ a b, o = some (a, b) → a ≤ b ∧ b ≤ 999999999) (w : World) : Calls prog 69 #[qj o] w fun e w' => e = .returned (.int .i64 (toO o)) ∧ w' = w := by
 cases o with
 | none =>
  refine (qhr qf qf w (by unfold sp; rw [yR]; rfl)).mono ?_
  rintro e w' ⟨h1, h2⟩; exact ⟨h1, h2.symm⟩
 | some p =>
  obtain ⟨a, b⟩ := p
  obtain ⟨h1, h2⟩ := Qt a b rfl
  refine (U5 _ _ a b w (KP a b h1 h2)).mono ?_
  rintro e w' ⟨h1, h2⟩; exact ⟨h1, h2.symm⟩
theorem qdU {G : Gs} {had : Cp} {g : Nat} (h : G g = true) : partsOf G had g = (frO (had g), toO (had g)) := by
 unfold partsOf
 rw [if_pos h]
 cases had g with
 | none => rfl
 | some p => rfl
theorem qbm {G : Gs} {had : Cp} {g : Nat} (h : G g = false) : partsOf G had g = (0, 0) := by
 unfold partsOf
 rw [if_neg (by simp [h])]
theorem qb.setNew {S : Nat → Prop} {a b : World} (h : qb S a b) {p : Addr} (hp : a.heap.size ≤ p.block) (u : Value) : qb S a (b.setCell p u) :=
 ⟨h.os, h.tape, h.output, by have := h.size; simpa [World.setCell] using this, fun i hi hs => (Below.heap_setCell _ _ _ _ (fun e => by omega)).trans (h.block i hi hs)⟩
def jB (P : Nat → Int × Int) (k i : Nat) : Value := if i < 2 * k then .int .i64 (if i % 2 = 0 then (P (i / 2)).1 else (P (i / 2)).2) else .int .i64 0
theorem qb.drewN {S : Nat → Prop} {a b : World} (h : qb S a b) (n : Nat) : qb S a (b.drewN n) := ⟨h.os, h.tape, h.output, h.size, h.block⟩
theorem qm.other {w : World} {b n : Nat} {t : TypeId} {V : Nat → Value} (h : qm w b n t V) {p : Addr} (hp : b ≠ p.block) (u : Value) : qm (w.setCell p u) b n t V := ⟨(Below.heap_setCell w p u b hp).trans h.heap⟩
theorem Xi {es : List Lit} {l : Lit} (h : l ∈ es) : (numL es l).isSome = true := by
 unfold numL
 cases hp : pos es l with
 | none => exact absurd h (QO.1 hp)
 | some k => rfl
theorem Xj {es : List Lit} {l : Lit} (h : (numL es l).isSome = true) : l ∈ es := by
 unfold numL at h
 cases hp : pos es l with
 | none => rw [hp] at h; cases h
 | some k => exact List.mem_of_getElem? (J4 hp).2
theorem qbn {P : Nat → Int × Int} {k : Nat} (h : P k = (0, 0)) : jB P k = jB P (k + 1) := by
 funext i
 unfold jB
 by_cases h1 : i < 2 * k
 ·have a : i < 2 * (k + 1) := by omega
  simp only [h1, a, if_true]
 ·by_cases h2 : i < 2 * (k + 1)
  ·have e : i / 2 = k := by omega
   simp only [h1, h2, if_true, if_false, e, h]
   split <;> rfl
  ·simp only [h1, h2, if_false]
theorem qdV {P : Nat → Int × Int} {k : Nat} {a b : Int} (h : P k = (a, b)) : (fun i => if i = k * 2 + 1 then .int .i64 b else if i = k * 2 then .int .i64 a else jB P k i) = jB P (k + 1) := by
 funext i
 unfold jB
 by_cases e1 : i = k * 2 + 1
 ·subst e1
  have q : (k * 2 + 1) / 2 = k := by omega
  have r : ¬ (k * 2 + 1) % 2 = 0 := by omega
  have t : k * 2 + 1 < 2 * (k + 1) := by omega
  simp only [q, r, t, h, if_true, if_false]
 ·by_cases e2 : i = k * 2
  ·subst e2
   have q : (k * 2) / 2 = k := by omega
   have r : (k * 2) % 2 = 0 := by omega
   have t : k * 2 < 2 * (k + 1) := by omega
   simp only [e1, q, r, t, h, if_true, if_false]
  ·simp only [e1, e2, if_false]
   by_cases h1 : i < 2 * k
   ·have a : i < 2 * (k + 1) := by omega
    simp only [h1, a, if_true]
   ·have a : ¬ i < 2 * (k + 1) := by omega
    simp only [h1, a, if_false]
theorem qc (w : World) (had : Cp) : zG (w.alloc (.cells (cH had) 27)) w.heap.size (cH had) 27 := zG.new _ _ _
theorem qc.at {w : World} {b : Nat} {had : Cp} (h : zG w b (cH had) 27) (g : Nat) (hg : g < 10) : w.cell? ⟨b, g, none⟩ = some (qj (had g)) := by
 rw [h.cell]
 rcases (by omega : g = 0 ∨ g = 1 ∨ g = 2 ∨ g = 3 ∨ g = 4 ∨ g = 5 ∨ g = 6 ∨ g = 7 ∨ g = 8 ∨ g = 9) with rfl | rfl | rfl | rfl | rfl | rfl | rfl | rfl | rfl | rfl <;> rfl
theorem qc.ten {w : World} {b : Nat} {had : Cp} (h : zG w b (cH had) 27) : w.cell? ⟨b, 0, none⟩ = some (qj (had 0)) ∧ w.cell? ⟨b, 1, none⟩ = some (qj (had 1)) ∧ w.cell? ⟨b, 2, none⟩ = some (qj (had 2)) ∧ w.cell? ⟨b, 3, none⟩ = some (qj (had 3)) ∧ w.cell? ⟨b, 4, none⟩ = some (qj (had 4)) ∧ w.cell? ⟨b, 5, none⟩ = some (qj (had 5)) ∧ w.cell? ⟨b, 6, none⟩ = some (qj (had 6)) ∧ w.cell? ⟨b, 7, none⟩ = some (qj (had 7)) ∧ w.cell? ⟨b, 8, none⟩ = some (qj (had 8)) ∧ w.cell? ⟨b, 9, none⟩ = some (qj (had 9)) := ⟨qc.at h 0 (by decide), qc.at h 1 (by decide), qc.at h 2 (by decide), qc.at h 3 (by decide), qc.at h 4 (by decide), qc.at h 5 (by decide), qc.at h 6 (by decide), qc.at h 7 (by decide), qc.at h 8 (by decide), qc.at h 9 (by decide)⟩
theorem vf {W : World} {b : Nat} {P : Nat → Int × Int} (h : qm W b 20 168 (jB P 10)) {o : Oper} {ev : Operand → Value} {x : Operand} (ho : o.op = .load 168 x) (hx : ev x = .pointer (some ⟨b, 0, none⟩)) :
  (execOp ev o).run prog W = .ok (.value (WN P)) W := by
 have hl : (loadVar 168 ⟨b, 0, none⟩).run prog W = .ok (.agg ((List.range 20).map (jB P 10)).toArray) W := run_loadVar_row W b 168 168 _ (0, 0) _ h.heap Z8 rfl (by kernel_rfl)
 have hv : Value.agg ((List.range 20).map (jB P 10)).toArray = WN P := rfl
 rw [hv] at hl
 unfold execOp
 simp only [ho, hx, Instr.loadAt, Instr.sureAddr, Sem.run_bind, Sem.run_pure, Result.andThen_ok, hl]
section
variable {X : Nat} {v : kU} {s : List UInt8} {xs : List Nd} {B : Nat} {c1 : Lit → Nat} {n1 : Nat} {P1 : Lit → Prop} {c2 : Lit → Nat} {n2 : Nat} {E : Nat → Prop} {es : List Lit}
theorem Yb (fx : Fx v s xs B P1) (i p c : Nat) (t : T) (had : Cp) (hi : i < v.n) (ht : zT (fun i => xs[i]?) t i) (hc : qo s.length had) (w : World) (h : Iv X v s xs B c1 n1 P1 c2 n2 E es w) (hE : ∀ b, E b → b < w.heap.size) (hbn : ¬ E v.bn) :
  Calls prog 100 #[.pointer (some ⟨X, 0, none⟩), .int .i64 i, .int .i64 p, .int .i64 c, qk had] w fun e w' => ∃ (fs : List Lit) (q : Nat), e = .returned (.agg #[.int .i64 i, .int .i64 p, .int .i64 c, .int .i64 q]) ∧ es <+: fs ∧ nOf fs (qd s t).asked had = some q ∧ q ≤ n1 ∧ Iv X v s xs B c1 n1 P1 c2 n2 E fs w' ∧ qb (fun b => b = v.bn) w w' := by
 have Vu : ∀ o, qb E w (w.alloc o) := fun o => (qb.refl E w).alloc o
 have h2 := h.keeps ((Vu (.cells (cH had) 27)).alloc (.cells #[.int .i64 0, .int .i64 0, .int .i64 0, .int .i64 0] 137))
 have qfs : ((w.alloc (.cells (cH had) 27)).alloc (.cells #[.int .i64 0, .int .i64 0, .int .i64 0, .int .i64 0] 137)).heap.size = w.heap.size + 2 := by simp
 have r0 := (h2.role hi ht).c0
 have x2 := h2.tr.c2
 have hcb := (qc w had).alloc (.cells #[.int .i64 0, .int .i64 0, .int .i64 0, .int .i64 0] 137)
 have h4 := Four.new (w.alloc (.cells (cH had) 27)) 137 (.int .i64 0) (.int .i64 0) (.int .i64 0) (.int .i64 0)
 rw [World.size_alloc] at h4
 have hn := fx.n2
 have H2 := ξ h2
 by_cases kz : XP (qd s t).asked = true
 ·have hz := yi.2 kz
  rw [hz] at r0
  have kD := ξ kz
  have q4 := h4.set (.int .i64 i) (.int .i64 p) (.int .i64 c) (.int .i64 0)
  have g0 := h4.fz 0; have g1 := h4.fz 1; have g2 := h4.fz 2; have g3 := h4.fz 3
  have HK : Hid (∀ o, ∀ S, qb S w ((w.alloc (.cells (cH had) 27)).alloc o)) := ξ (fun o S => ((qb.refl S w).alloc _).alloc _)
  have HH := ξ h
  clear hz h Vu h2 hcb
  unfold qk
  go_enter func100, ntmps100
  go_wp2
  have e0 := q4.c0; have e1 := q4.c1; have e2 := q4.c2; have e3 := q4.c3
  refine bodyPost_ret (v := .agg #[.int .i64 i, .int .i64 p, .int .i64 c, .int .i64 0]) (by simp [results, results100, go_sem, e0, e1, e2, e3]) rfl ⟨es, 0, rfl, List.prefix_refl _, ?_, by omega, HH.out.keeps (HK.out _ E), HK.out _ _⟩
  unfold nOf; rw [if_pos kD.out]
 ·have kD := ξ kz
  have jp := fx.sl
  have HOK := ξ (fun k a b (e : had k = some (a, b)) => (show a ≤ b ∧ b ≤ 999999999 from by have := hc k a b e; omega))
  have vD := Xk (G := (qd s t).asked) hc (by omega)
  obtain ⟨G, hG⟩ : ∃ G, G = (qd s t).asked := ⟨_, rfl⟩
  have U1 := ξ hG
  rw [← hG] at r0 kz vD
  have hz : gw G ≠ 0 := fun e => kz (yi.1 e)
  have hzb : ((gw G : Int) == 0) = false := by rw [beq_eq_false_iff_ne]; omega
  have HON := ξ (fun g (h : G g = true) => qdU (had := had) h)
  have HOFF := ξ (fun g (h : G g = false) => qbm (had := had) h)
  obtain ⟨P, hP⟩ : ∃ P, P = partsOf G had := ⟨_, rfl⟩
  rw [← hP] at vD HON HOFF
  have HP := ξ hP
  have HS := ξ (fun n hn w => qdW G n hn w)
  have HH := ξ h
  have qbg := ξ vD
  have HC := ξ hc
  have HX := ξ fx
  generalize gw G = gG at *
  clear kz hz h Vu h2 H2 hP hG vD hc fx
  unfold qk
  go_enter func100, ntmps100
  go_wp2
  clear r0 x2
  go_loopw [28] (fun i wr => ∃ k : Nat, k ≤ 10 ∧ i = .int .i64 k ∧ qm wr (w.heap.size + 2) 20 168 (jB P k) ∧ zG wr w.heap.size (cH had) 27 ∧ Four wr (w.heap.size + 1) 137 (.int .i64 0) (.int .i64 0) (.int .i64 0) (.int .i64 0) ∧ ∀ S, qb S w wr) (fun i _ => 10 - (RowKit.intOf i).toNat)
  case atStart =>
   have hv := qm.new ((w.alloc (.cells (cH had) 27)).alloc (.cells #[.int .i64 0, .int .i64 0, .int .i64 0, .int .i64 0] 137)) 20 168 (jB P 0)
   rw [qfs] at hv
   exact ⟨0, by omega, rfl, hv, hcb.alloc _, h4.alloc _, fun S => (((qb.refl S w).alloc _).alloc _).alloc _⟩
  case round =>
   obtain ⟨k, hk, rfl, hr, hb, hf, hK⟩ := hrel
   by_cases zb : k < 10
   ·have c0 := qc.at hb k zb
    have z0 := hr.fz (k * 2)
    have z1 := hr.fz (k * 2 + 1)
    go_wp2_with fail
    refine (HS.out k zb _).mono ?_
    rintro e w2 ⟨rfl, rfl⟩
    cases hG : G k with
    | false =>
     go_wp2
     go_roundw
     case rel =>
      refine ⟨k + 1, by omega, by simp, ?_, hb, hf, hK⟩
      have e := qbn (HOFF.out k hG)
      rw [← e]; exact hr
     case measure => (simp [RowKit.intOf]) <;> omega
    | true =>
     have hPk := HON.out k hG
     have qu : w2.drew.cell? ⟨w.heap.size, k, none⟩ = some (qj (had k)) := c0
     have hV := ((hr.set (k * 2) (.int .i64 (frO (had k)))).set (k * 2 + 1) (.int .i64 (toO (had k)))).drew
     rw [qdV hPk] at hV
     have zj := ((hb.other (p := ⟨w.heap.size + 2, k * 2, none⟩) (by simp) (.int .i64 (frO (had k)))).other (p := ⟨w.heap.size + 2, k * 2 + 1, none⟩) (by simp) (.int .i64 (toO (had k)))).drew
     have Z3 := ((hf.other (p := ⟨w.heap.size + 2, k * 2, none⟩) (by simp) (.int .i64 (frO (had k)))).other (p := ⟨w.heap.size + 2, k * 2 + 1, none⟩) (by simp) (.int .i64 (toO (had k)))).drew
     have hK2 := fun S => (((hK S).setNew (p := ⟨w.heap.size + 2, k * 2, none⟩) (by simp) (.int .i64 (frO (had k)))).setNew (p := ⟨w.heap.size + 2, k * 2 + 1, none⟩) (by simp) (.int .i64 (toO (had k)))).drew
     have k0 := hr.cell (k * 2) (by omega)
     have k1 := hr.cell (k * 2 + 1) (by omega)
     have qE := ξ (ζ hV (ζ zj (ζ Z3 hK2)))
     have HF := ξ (fun w => qgm (had k) (HOK.out k) w)
     have HT := ξ (fun w => qlq (had k) (HOK.out k) w)
     clear hV zj Z3 hK2 hcb h4 qfs hb hf hr hK
     go_wp2_with fail
     refine wp_region_noPanic ?_
     refine wp_region_held_drew (S := fun w' => w'.cell? ⟨w.heap.size, k, none⟩ = some (qj (had k))) (by kernel_rfl) ?_ (fun qe => ?_)
     ·(try dsimp only); exact qu
     refine tq 0 ?_
     refine tq 1 ?_
     refine tq 2 ?_
     refine tq 3 ?_
     refine tq 5 ?_
     refine tq 6 ?_
     refine tq 7 ?_
     refine zU 4 fun K hK => ?_
     go_simp
     refine (HF.out _).mono ?_
     rintro e wN ⟨rfl, rfl⟩
     refine hK.out _ _ ?_ (fun qe => ?_)
     ·(try dsimp only); exact qe
     clear hK K
     try simp only [Act.put, zm]
     refine zU 8 fun K hK => ?_
     go_simp
     refine (HT.out _).mono ?_
     rintro e wN ⟨rfl, rfl⟩
     refine hK.out _ _ ?_ (fun qe => ?_)
     ·(try dsimp only); exact qe
     clear hK K
     try simp only [Act.put, zm]
     refine tq 9 ?_
     refine tq 10 ?_
     refine zU 11 fun K hK => ?_
     go_simp
     refine hK.out _ _ ?_ (fun qe => ?_)
     ·(try dsimp only); exact qc.at qE.out.2.1 k zb
     clear hK K
     try simp only [Act.put, zm]
     refine wpAnyH_done (by kernel_rfl) ?_ _
     refine NoPanic.normal ?_
     go_wp2
     go_roundw
     case rel => exact ⟨k + 1, by omega, by simp, qE.out.1, qE.out.2.1, qE.out.2.2.1, qE.out.2.2.2⟩
     case measure => (simp [RowKit.intOf]) <;> omega
   ·obtain rfl : k = 10 := by omega
    clear hcb h4 qfs
    have hv := HH.out.keeps (hK E)
    obtain ⟨yN, hso, j6⟩ := HX.out.ok i t hi ht
    have x3 := hv.tr.c3
    have Qk := fun W (hW : qb E wr W) => (hv.keeps hW).nums.look kJ underlying91 (z := .int .i64 0) (by intro w; kernel_rfl) qbg.out
    have l1 := Qk _ (qb.refl E wr).drew
    have l2 := Qk _ (qb.refl E wr).drew.drew
    have g0 := hf.fz 0; have g1 := hf.fz 1; have g2 := hf.fz 2; have g3 := hf.fz 3
    have f0 := hf.c0; have f1 := hf.c1; have f2 := hf.c2; have f3 := hf.c3
    have HV := ξ (ζ hv (ζ hf hK))
    have HSO := ξ hso
    have Jd := ξ j6
    clear hb hf hK hv Qk hso j6
    cases Zl : pos es (pkey P) with
    | some k0 =>
     obtain ⟨q, hq⟩ : ∃ q : Nat, q = k0 + 1 := ⟨_, rfl⟩
     have WO : numL es (pkey P) = some (.int .i64 (q : Int)) := by unfold numL; rw [Zl, hq]; rfl
     rw [WO, Option.getD_some] at l1 l2
     have hqb : ((q : Int) == 0) = false := by rw [beq_eq_false_iff_ne]; omega
     have HQ := ξ (ζ Zl hq)
     have qR : Hid ((((((wr.setCell ⟨w.heap.size + 1, 0, none⟩ (.int .i64 i)).setCell ⟨w.heap.size + 1, 1, none⟩ (.int .i64 p)).setCell ⟨w.heap.size + 1, 2, none⟩ (.int .i64 c)).setCell ⟨w.heap.size + 1, 3, none⟩ (.int .i64 q)).drew.drew.cell? ⟨X, 3, none⟩ = some (.map (some v.bn)) ∧ qm ((((wr.setCell ⟨w.heap.size + 1, 0, none⟩ (.int .i64 i)).setCell ⟨w.heap.size + 1, 1, none⟩ (.int .i64 p)).setCell ⟨w.heap.size + 1, 2, none⟩ (.int .i64 c)).setCell ⟨w.heap.size + 1, 3, none⟩ (.int .i64 q)).drew.drew (w.heap.size + 2) 20 168 (jB P 10)) ∧ Four ((((wr.setCell ⟨w.heap.size + 1, 0, none⟩ (.int .i64 i)).setCell ⟨w.heap.size + 1, 1, none⟩ (.int .i64 p)).setCell ⟨w.heap.size + 1, 2, none⟩ (.int .i64 c)).setCell ⟨w.heap.size + 1, 3, none⟩ (.int .i64 q)).drew.drew (w.heap.size + 1) 137 (.int .i64 i) (.int .i64 p) (.int .i64 c) (.int .i64 q) ∧ ∀ S, qb S w ((((wr.setCell ⟨w.heap.size + 1, 0, none⟩ (.int .i64 i)).setCell ⟨w.heap.size + 1, 1, none⟩ (.int .i64 p)).setCell ⟨w.heap.size + 1, 2, none⟩ (.int .i64 c)).setCell ⟨w.heap.size + 1, 3, none⟩ (.int .i64 q)).drew.drew) := by
      have hKW : ∀ S, qb S w ((((wr.setCell ⟨w.heap.size + 1, 0, none⟩ (.int .i64 i)).setCell ⟨w.heap.size + 1, 1, none⟩ (.int .i64 p)).setCell ⟨w.heap.size + 1, 2, none⟩ (.int .i64 c)).setCell ⟨w.heap.size + 1, 3, none⟩ (.int .i64 q)).drew.drew := fun S => ((((((HV.out.2.2 S).setNew (p := ⟨w.heap.size + 1, 0, none⟩) (by simp) _).setNew (p := ⟨w.heap.size + 1, 1, none⟩) (by simp) _).setNew (p := ⟨w.heap.size + 1, 2, none⟩) (by simp) _).setNew (p := ⟨w.heap.size + 1, 3, none⟩) (by simp) _).drew).drew
      refine ξ ⟨⟨(HH.out.keeps (hKW E)).tr.c3, ?_⟩, ?_, hKW⟩
      ·exact ((((hr.other (p := ⟨w.heap.size + 1, 0, none⟩) (by simp) _).other (p := ⟨w.heap.size + 1, 1, none⟩) (by simp) _).other (p := ⟨w.heap.size + 1, 2, none⟩) (by simp) _).other (p := ⟨w.heap.size + 1, 3, none⟩) (by simp) _).drew.drew
      ·exact (HV.out.2.1.set _ _ _ _).drew.drew
     clear Zl hq WO
     go_wp2_with fail
     refine wp_region_noPanic ?_
     refine wp_region_held_drew (S := fun w' => w'.cell? ⟨X, 3, none⟩ = some (.map (some v.bn)) ∧ qm w' (w.heap.size + 2) 20 168 (jB P 10)) (by kernel_rfl) ?_ (fun qe => ?_)
     ·(try dsimp only); exact ⟨x3, hr.drew⟩
     refine tq 0 ?_ (hy := by (intro w qi; have Zc := qi.1; go_simp); (try rfl))
     refine tq 1 ?_ (hy := by (intro w qi; have Zc := qi.1; go_simp); (try rfl))
     refine tq 2 ?_ (hy := by (intro w qi; have Zc := qi.1; go_simp); (try rfl))
     refine tq 3 ?_ (hy := by (intro w qi; have Zc := qi.1; go_simp); (try rfl))
     refine wpAnyH_take (i := 4) (v := WN P) rfl (by kernel_rfl) (by kernel_rfl) (by kernel_rfl) (fun _ _ _ h => h) (Or.inl ⟨by kernel_rfl, fun w qi => vf qi.2 rfl rfl⟩) (by assumption) ?_
     try simp only [Act.put, zm]
     refine zU 5 fun K hK => ?_
     go_simp
     refine hK.out _ _ ?_ (fun qe => ?_)
     ·(try dsimp only); exact qe
     clear hK K
     try simp only [Act.put, zm]
     refine tq 6 ?_ (hy := by (intro w qi; have Zc := qi.1; go_simp); (try rfl))
     refine wpAnyH_done (by kernel_rfl) ?_ _
     refine NoPanic.normal ?_
     go_wp2_with fail
     refine wp_region_noPanic ?_
     refine wp_region_held_drew (S := fun w' => w'.cell? ⟨X, 3, none⟩ = some (.map (some v.bn)) ∧ qm w' (w.heap.size + 2) 20 168 (jB P 10)) (by kernel_rfl) ?_ (fun qe => ?_)
     ·(try dsimp only); exact ⟨x3, hr.drew.drew⟩
     refine tq 0 ?_ (hy := by (intro w qi; have Zc := qi.1; go_simp); (try rfl))
     refine tq 1 ?_ (hy := by (intro w qi; have Zc := qi.1; go_simp); (try rfl))
     refine tq 2 ?_ (hy := by (intro w qi; have Zc := qi.1; go_simp); (try rfl))
     refine tq 3 ?_ (hy := by (intro w qi; have Zc := qi.1; go_simp); (try rfl))
     refine tq 4 ?_ (hy := by (intro w qi; have Zc := qi.1; go_simp); (try rfl))
     refine tq 5 ?_ (hy := by (intro w qi; have Zc := qi.1; go_simp); (try rfl))
     refine tq 6 ?_ (hy := by (intro w qi; have Zc := qi.1; go_simp); (try rfl))
     refine wpAnyH_take (i := 7) (v := WN P) rfl (by kernel_rfl) (by kernel_rfl) (by kernel_rfl) (fun _ _ _ h => h) (Or.inl ⟨by kernel_rfl, fun w qi => vf qi.2 rfl rfl⟩) (by assumption) ?_
     try simp only [Act.put, zm]
     refine zU 8 fun K hK => ?_
     go_simp
     refine hK.out _ _ ?_ (fun qe => ?_)
     ·(try dsimp only); exact qe
     clear hK K
     try simp only [Act.put, zm]
     refine tq 9 ?_ (hy := by (intro w qi; have Zc := qi.1; go_simp); (try rfl))
     refine zU 10 fun K hK => ?_
     go_simp
     refine hK.out _ _ ?_ (fun qe => ?_)
     ·(try dsimp only); exact qR.out.1
     clear hK K
     try simp only [Act.put, zm]
     refine wpAnyH_done (by kernel_rfl) ?_ _
     refine NoPanic.normal ?_
     go_wp2
     have e0 := qR.out.2.1.c0; have e1 := qR.out.2.1.c1; have e2 := qR.out.2.1.c2; have e3 := qR.out.2.1.c3
     refine bodyPost_ret (v := .agg #[.int .i64 i, .int .i64 p, .int .i64 c, .int .i64 q]) (by simp [results, results100, go_sem, e0, e1, e2, e3]) rfl ⟨es, q, rfl, List.prefix_refl _, ?_, ?_, HH.out.keeps (qR.out.2.2 E), qR.out.2.2 _⟩
     ·unfold nOf
      rw [if_neg (by rw [← U1.out]; exact fun e => kD.out (by rw [← U1.out]; exact e)), ← U1.out, ← HP.out, HQ.out.1, HQ.out.2]
      rfl
     ·obtain ⟨m, hm, _, qq⟩ := HV.out.1.nums.len underlying91 3 kJ
      have h1 := (J4 HQ.out.1).1
      have h2 := qq es HV.out.1.nd (fun l hl => ⟨HV.out.1.ky l hl, Xi hl⟩) (fun l _ hl => Xj hl)
      have h3 := HQ.out.2
      omega
    | none =>
     have WO : numL es (pkey P) = none := by unfold numL; rw [Zl]; rfl
     rw [WO, Option.getD_none] at l1
     have hI := HH.out.fresh.keeps ((HV.out.2.2 _).drew.drew)
     obtain ⟨m, hm1, qq, qdX⟩ := hI.nums.len underlying91 3 kJ
     have hmm : m = es.length := qdX es hI.nd (fun l hl => ⟨hI.ky l hl, Xi hl⟩) (fun l _ hl => Xj hl)
     have hmx := hI.nums.max
     obtain ⟨q, hq⟩ : ∃ q : Nat, q = m + 1 := ⟨_, rfl⟩
     have hqv : (m : Int) + 1 = (q : Int) := by omega
     have hp1 : P1 (pkey P) := by
      have := HX.out.P1 i t had hi ht HC.out kD.out
      rw [← U1.out, ← HP.out] at this
      exact this
     obtain ⟨w3, hup, hm3, QD⟩ := hI.nums.update kJ underlying91 (val := .int .i64 (q : Int)) qbg.out hp1
     have hfun : (fun l => @ite _ (l = pkey P) (Classical.propDecidable _) (some (Value.int .i64 (q : Int))) (numL es l)) = numL (es ++ [pkey P]) := by
      funext l
      unfold numL
      by_cases e : l = pkey P
      ·subst e
       rw [if_pos rfl, Jp Zl, hq, hmm]; rfl
      ·rw [if_neg e, Yj e]
     rw [hfun] at hm3
     have hK3 : qb (fun b => b = v.bn) wr.drew.drew w3 := (qb.refl _ _).grown QD (fun k h => by cases h; rfl)
     have Us := hI.upNums HX.out hK3 hm3 (List.prefix_append es [pkey P]) (by
      rw [List.nodup_append]
      refine ⟨hI.nd, by simp, fun a ha b hb e => ?_⟩
      rw [List.mem_singleton] at hb
      subst hb; subst e
      exact QO.1 Zl ha) (fun l hl => by
      rw [List.mem_append, List.mem_singleton] at hl
      rcases hl with hl | hl
      ·exact hI.ky l hl
      ·subst hl; exact kJ.key qbg.out)
     have lbn := HH.out.nums.blt
     have kH : qm w3 (w.heap.size + 2) 20 168 (jB P 10) := ⟨(hK3.block _ hr.lt (by omega)).trans hr.heap⟩
     have hf3 : Four w3 (w.heap.size + 1) 137 (.int .i64 0) (.int .i64 0) (.int .i64 0) (.int .i64 0) := ⟨(hK3.block _ HV.out.2.1.lt (by omega)).trans HV.out.2.1.heap⟩
     have x33 := Us.tr.c3
     have l3 := (Us.keeps (qb.refl _ w3).drew).nums.look kJ underlying91 (z := .int .i64 0) (by intro w; kernel_rfl) qbg.out
     have Yk : numL (es ++ [pkey P]) (pkey P) = some (.int .i64 (q : Int)) := by unfold numL; rw [Jp Zl, hq, hmm]; rfl
     rw [Yk, Option.getD_some] at l3
     have g30 := hf3.fz 0; have g31 := hf3.fz 1; have g32 := hf3.fz 2; have g33 := hf3.fz 3
     have f30 := hf3.c0; have f31 := hf3.c1; have f32 := hf3.c2; have f33 := hf3.c3
     have HQ := ξ (ζ Zl (ζ hq (ζ hmm Us)))
     have qR : Hid ((((((w3.setCell ⟨w.heap.size + 1, 0, none⟩ (.int .i64 i)).setCell ⟨w.heap.size + 1, 1, none⟩ (.int .i64 p)).setCell ⟨w.heap.size + 1, 2, none⟩ (.int .i64 c)).setCell ⟨w.heap.size + 1, 3, none⟩ (.int .i64 q)).drew.cell? ⟨X, 3, none⟩ = some (.map (some v.bn)) ∧ qm ((((w3.setCell ⟨w.heap.size + 1, 0, none⟩ (.int .i64 i)).setCell ⟨w.heap.size + 1, 1, none⟩ (.int .i64 p)).setCell ⟨w.heap.size + 1, 2, none⟩ (.int .i64 c)).setCell ⟨w.heap.size + 1, 3, none⟩ (.int .i64 q)).drew (w.heap.size + 2) 20 168 (jB P 10)) ∧ Four ((((w3.setCell ⟨w.heap.size + 1, 0, none⟩ (.int .i64 i)).setCell ⟨w.heap.size + 1, 1, none⟩ (.int .i64 p)).setCell ⟨w.heap.size + 1, 2, none⟩ (.int .i64 c)).setCell ⟨w.heap.size + 1, 3, none⟩ (.int .i64 q)).drew (w.heap.size + 1) 137 (.int .i64 i) (.int .i64 p) (.int .i64 c) (.int .i64 q) ∧ Iv X v s xs B c1 n1 P1 c2 n2 E (es ++ [pkey P]) ((((w3.setCell ⟨w.heap.size + 1, 0, none⟩ (.int .i64 i)).setCell ⟨w.heap.size + 1, 1, none⟩ (.int .i64 p)).setCell ⟨w.heap.size + 1, 2, none⟩ (.int .i64 c)).setCell ⟨w.heap.size + 1, 3, none⟩ (.int .i64 q)).drew ∧ qb (fun b => b = v.bn) w ((((w3.setCell ⟨w.heap.size + 1, 0, none⟩ (.int .i64 i)).setCell ⟨w.heap.size + 1, 1, none⟩ (.int .i64 p)).setCell ⟨w.heap.size + 1, 2, none⟩ (.int .i64 c)).setCell ⟨w.heap.size + 1, 3, none⟩ (.int .i64 q)).drew) := by
      have hKK : qb (fun b => b = v.bn) w w3 := ((HV.out.2.2 _).drew.drew).trans hK3
      have hKW : qb (fun b => b = v.bn) w ((((w3.setCell ⟨w.heap.size + 1, 0, none⟩ (.int .i64 i)).setCell ⟨w.heap.size + 1, 1, none⟩ (.int .i64 p)).setCell ⟨w.heap.size + 1, 2, none⟩ (.int .i64 c)).setCell ⟨w.heap.size + 1, 3, none⟩ (.int .i64 q)).drew := (((((hKK).setNew (p := ⟨w.heap.size + 1, 0, none⟩) (by simp) _).setNew (p := ⟨w.heap.size + 1, 1, none⟩) (by simp) _).setNew (p := ⟨w.heap.size + 1, 2, none⟩) (by simp) _).setNew (p := ⟨w.heap.size + 1, 3, none⟩) (by simp) _).drew
      have hI4 : Iv X v s xs B c1 n1 P1 c2 n2 E (es ++ [pkey P]) ((((w3.setCell ⟨w.heap.size + 1, 0, none⟩ (.int .i64 i)).setCell ⟨w.heap.size + 1, 1, none⟩ (.int .i64 p)).setCell ⟨w.heap.size + 1, 2, none⟩ (.int .i64 c)).setCell ⟨w.heap.size + 1, 3, none⟩ (.int .i64 q)).drew := by
       have vn : qb (fun b => E b ∨ w.heap.size ≤ b) w3 ((((w3.setCell ⟨w.heap.size + 1, 0, none⟩ (.int .i64 i)).setCell ⟨w.heap.size + 1, 1, none⟩ (.int .i64 p)).setCell ⟨w.heap.size + 1, 2, none⟩ (.int .i64 c)).setCell ⟨w.heap.size + 1, 3, none⟩ (.int .i64 q)).drew := (((((qb.refl (fun b => E b ∨ w.heap.size ≤ b) w3).setCell (p := ⟨w.heap.size + 1, 0, none⟩) (.inr (by simp)) _).setCell (p := ⟨w.heap.size + 1, 1, none⟩) (.inr (by simp)) _).setCell (p := ⟨w.heap.size + 1, 2, none⟩) (.inr (by simp)) _).setCell (p := ⟨w.heap.size + 1, 3, none⟩) (.inr (by simp)) _).drew
       exact (Us.keeps vn).mono (fun b h => .inl h)
      exact ξ ⟨⟨hI4.tr.c3, ((((kH.other (p := ⟨w.heap.size + 1, 0, none⟩) (by simp) _).other (p := ⟨w.heap.size + 1, 1, none⟩) (by simp) _).other (p := ⟨w.heap.size + 1, 2, none⟩) (by simp) _).other (p := ⟨w.heap.size + 1, 3, none⟩) (by simp) _).drew⟩, (hf3.set _ _ _ _).drew, hI4, hKW⟩
     have hwr : IntKind.i64.wrap (q : Int) = (q : Int) := by
      have e : maxLen = 9223372036854775807 := by decide
      rw [IntKind.wrap_i64]
      omega
     clear WO hI qdX hmm hmx hp1 hm3 hfun QD hK3 Us Yk hf3 lbn hq Zl
     go_wp2_with fail
     refine wp_region_noPanic ?_
     refine wp_region_held_drew (S := fun w' => w'.cell? ⟨X, 3, none⟩ = some (.map (some v.bn)) ∧ qm w' (w.heap.size + 2) 20 168 (jB P 10)) (by kernel_rfl) ?_ (fun qe => ?_)
     ·(try dsimp only); exact ⟨x3, hr.drew⟩
     refine tq 0 ?_ (hy := by (intro w qi; have Zc := qi.1; go_simp); (try rfl))
     refine tq 1 ?_ (hy := by (intro w qi; have Zc := qi.1; go_simp); (try rfl))
     refine tq 2 ?_ (hy := by (intro w qi; have Zc := qi.1; go_simp); (try rfl))
     refine tq 3 ?_ (hy := by (intro w qi; have Zc := qi.1; go_simp); (try rfl))
     refine wpAnyH_take (i := 4) (v := WN P) rfl (by kernel_rfl) (by kernel_rfl) (by kernel_rfl) (fun _ _ _ h => h) (Or.inl ⟨by kernel_rfl, fun w qi => vf qi.2 rfl rfl⟩) (by assumption) ?_
     try simp only [Act.put, zm]
     refine zU 5 fun K hK => ?_
     go_simp
     refine hK.out _ _ ?_ (fun qe => ?_)
     ·(try dsimp only); exact qe
     clear hK K
     try simp only [Act.put, zm]
     refine tq 6 ?_ (hy := by (intro w qi; have Zc := qi.1; go_simp); (try rfl))
     refine wpAnyH_done (by kernel_rfl) ?_ _
     refine NoPanic.normal ?_
     go_wp2_with fail
     refine wp_region_noPanic ?_
     refine wp_region_held_drew (S := fun w' => w'.cell? ⟨X, 3, none⟩ = some (.map (some v.bn)) ∧ qm w' (w.heap.size + 2) 20 168 (jB P 10)) (by kernel_rfl) ?_ (fun qe => ?_)
     ·(try dsimp only); exact ⟨x3, hr.drew.drew⟩
     refine tq 0 ?_ (hy := by (intro w qi; have Zc := qi.1; go_simp); (try rfl))
     refine tq 1 ?_ (hy := by (intro w qi; have Zc := qi.1; go_simp); (try rfl))
     refine tq 2 ?_ (hy := by (intro w qi; have Zc := qi.1; go_simp); (try rfl))
     refine tq 3 ?_ (hy := by (intro w qi; have Zc := qi.1; go_simp); (try rfl))
     refine wpAnyH_take (i := 4) (v := WN P) rfl (by kernel_rfl) (by kernel_rfl) (by kernel_rfl) (fun _ _ _ h => h) (Or.inl ⟨by kernel_rfl, fun w qi => vf qi.2 rfl rfl⟩) (by assumption) ?_
     try simp only [Act.put, zm]
     refine tq 5 ?_ (hy := by (intro w qi; have Zc := qi.1; go_simp); (try rfl))
     refine tq 6 ?_ (hy := by (intro w qi; have Zc := qi.1; go_simp); (try rfl))
     refine tq 7 ?_ (hy := by (intro w qi; have Zc := qi.1; go_simp); (try rfl))
     refine tq 8 ?_ (hy := by (intro w qi; have Zc := qi.1; go_simp); (try rfl))
     refine zU 9 fun K hK => ?_
     go_simp
     refine hK.out _ _ ?_ (fun qe => ?_)
     ·(try dsimp only); exact qe
     clear hK K
     try simp only [Act.put, zm]
     refine tq 10 ?_ (hy := by (intro w qi; have Zc := qi.1; go_simp); (try rfl))
     refine zU 11 fun K hK => ?_
     go_simp
     refine hK.out _ _ ?_ (fun qe => ?_)
     ·(try dsimp only); exact ⟨x33, kH⟩
     clear hK K
     try simp only [Act.put, zm]
     refine wpAnyH_done (by kernel_rfl) ?_ _
     refine NoPanic.normal ?_
     go_wp2_with fail
     refine wp_region_noPanic ?_
     refine wp_region_held_drew (S := fun w' => w'.cell? ⟨X, 3, none⟩ = some (.map (some v.bn)) ∧ qm w' (w.heap.size + 2) 20 168 (jB P 10)) (by kernel_rfl) ?_ (fun qe => ?_)
     ·(try dsimp only); exact ⟨x33, kH.drew⟩
     refine tq 0 ?_ (hy := by (intro w qi; have Zc := qi.1; go_simp); (try rfl))
     refine tq 1 ?_ (hy := by (intro w qi; have Zc := qi.1; go_simp); (try rfl))
     refine tq 2 ?_ (hy := by (intro w qi; have Zc := qi.1; go_simp); (try rfl))
     refine tq 3 ?_ (hy := by (intro w qi; have Zc := qi.1; go_simp); (try rfl))
     refine tq 4 ?_ (hy := by (intro w qi; have Zc := qi.1; go_simp); (try rfl))
     refine tq 5 ?_ (hy := by (intro w qi; have Zc := qi.1; go_simp); (try rfl))
     refine tq 6 ?_ (hy := by (intro w qi; have Zc := qi.1; go_simp); (try rfl))
     refine wpAnyH_take (i := 7) (v := WN P) rfl (by kernel_rfl) (by kernel_rfl) (by kernel_rfl) (fun _ _ _ h => h) (Or.inl ⟨by kernel_rfl, fun w qi => vf qi.2 rfl rfl⟩) (by assumption) ?_
     try simp only [Act.put, zm]
     refine zU 8 fun K hK => ?_
     go_simp
     refine hK.out _ _ ?_ (fun qe => ?_)
     ·(try dsimp only); exact qe
     clear hK K
     try simp only [Act.put, zm]
     refine tq 9 ?_ (hy := by (intro w qi; have Zc := qi.1; go_simp); (try rfl))
     refine zU 10 fun K hK => ?_
     go_simp
     refine hK.out _ _ ?_ (fun qe => ?_)
     ·(try dsimp only); exact qR.out.1
     clear hK K
     try simp only [Act.put, zm]
     refine wpAnyH_done (by kernel_rfl) ?_ _
     refine NoPanic.normal ?_
     go_wp2
     have e0 := qR.out.2.1.c0; have e1 := qR.out.2.1.c1; have e2 := qR.out.2.1.c2; have e3 := qR.out.2.1.c3
     refine bodyPost_ret (v := .agg #[.int .i64 i, .int .i64 p, .int .i64 c, .int .i64 q]) (by simp [results, results100, go_sem, e0, e1, e2, e3]) rfl ⟨es ++ [pkey P], q, rfl, List.prefix_append _ _, ?_, ?_, qR.out.2.2.1, qR.out.2.2.2⟩
     ·unfold nOf
      rw [if_neg (by rw [← U1.out]; exact fun e => kD.out (by rw [← U1.out]; exact e)), ← U1.out, ← HP.out, Jp HQ.out.1, HQ.out.2.1, HQ.out.2.2.1]
      rfl
     ·obtain ⟨m', hm, _, qlw⟩ := HQ.out.2.2.2.nums.len underlying91 3 kJ
      have h2 := qlw _ HQ.out.2.2.2.nd (fun l hl => ⟨HQ.out.2.2.2.ky l hl, Xi hl⟩) (fun l _ hl => Xj hl)
      rw [List.length_append, List.length_singleton] at h2
      have h3 := HQ.out.2.1
      have h4 := HQ.out.2.2.1
      omega
end
end Go.Proofs.YtjgegohidhdbpaaGreatDoor
