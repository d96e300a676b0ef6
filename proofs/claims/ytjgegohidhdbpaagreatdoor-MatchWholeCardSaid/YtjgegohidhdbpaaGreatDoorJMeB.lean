/- The document's own steps: a part that is there several times, as a table. -/
import Derived.Test.YtjgegohidhdbpaaGreatDoorJMcC
import Derived.Test.YtjgegohidhdbpaaGreatDoorJMdQ
import Derived.Deep.CutBlock
set_option linter.unusedVariables false
set_option linter.unusedSimpArgs false
set_option maxRecDepth 100000
set_option maxHeartbeats 40000000
namespace Go.Proofs.YtjgegohidhdbpaaGreatDoor
open Go.RowKit
theorem qm.congr {w : World} {b n : Nat} {t : TypeId} {V V' : Nat → Value} (h : qm w b n t V) (e : ∀ i, i < n → V i = V' i) : qm w b n t V' := ⟨by
 have : (List.range n).map V' = (List.range n).map V := List.map_congr_left fun i hi => (e i (List.mem_range.1 hi)).symm
 rw [this]; exact h.heap⟩
structure XO (w0 w : World) (ab n : Nat) (RA : Nat → Nat) (a : Nat → Nat → Bool) (x : Nd) : Prop where
 grid : yT w ab n n RA a
 bel : Below w0.heap.size w0 w
 box : w.heap[w0.heap.size]? = some (.cells x.cells 73 (0, 0))
theorem XO.keep {w0 w w' : World} {ab n : Nat} {RA : Nat → Nat} {a : Nat → Nat → Bool} {x : Nd} (h : XO w0 w ab n RA a x) (Kq : ab < w0.heap.size) (VO : ∀ c, c < n → RA c < w0.heap.size) (k : Below (w0.heap.size + 1) w w') (hs : w0.heap.size + 1 ≤ w.heap.size) : XO w0 w' ab n RA a x :=
 ⟨⟨h.grid.top.below k (by omega), fun c hc => (h.grid.row c hc).below k (by have := VO c hc; omega)⟩, h.bel.trans ⟨k.os, k.tape, k.output, k.size, fun i hi => k.block i (by omega)⟩, (k.block _ (Nat.lt_succ_self _)).trans h.box⟩
theorem XO.drew {w0 w : World} {ab n : Nat} {RA : Nat → Nat} {a : Nat → Nat → Bool} {x : Nd} (h : XO w0 w ab n RA a x) : XO w0 w.drew ab n RA a x := ⟨⟨h.grid.top.drew, fun c hc => (h.grid.row c hc).drew⟩, h.bel.drew, h.box⟩
theorem ja {w : World} {p : Addr} {b k : Nat} (hb : ¬ b = p.block) (v : Value) : (w.setCell p v).cell? ⟨b, k, none⟩ = w.cell? ⟨b, k, none⟩ := by
 simp only [World.cell?]
 rw [Below.heap_setCell w p v b hb]
theorem qdz {a : Nat → Nat → Bool} {m M : Int} {j : Nat} (f c : Nat) : Qj a m M j f c j = (decide (m ≤ (c : Int)) || a j j) := by
 cases f with
 | zero => simp [Qj]
 | succ f => simp [Qj]
theorem qbf {p k : Nat} {f : Nat → Bool} (h : p ≤ k + 1) : zZ p (k + 1) f = (zZ p k f || f (k + 1)) := by
 rw [Bool.eq_iff_iff, Bool.or_eq_true, qF, qF]
 constructor
 ·rintro ⟨i, h1, h2, h3⟩
  by_cases e : i = k + 1
  ·subst e; exact .inr h3
  ·exact .inl ⟨i, h1, by omega, h3⟩
 ·rintro (⟨i, h1, h2, h3⟩ | h3)
  ·exact ⟨i, h1, by omega, h3⟩
  ·exact ⟨k + 1, h, Nat.le_refl _, h3⟩
theorem XO.put {w0 w : World} {ab n : Nat} {RA : Nat → Nat} {a : Nat → Nat → Bool} {x : Nd} (h : XO w0 w ab n RA a x) {r p : Nat} (hr : w0.heap.size + 1 ≤ r ∧ (ab < w0.heap.size ∧ ∀ c, c < n → RA c < w0.heap.size) ∧ w0.heap.size + 1 ≤ w.heap.size) (v : Value) : XO w0 (w.setCell ⟨r, p, none⟩ v) ab n RA a x :=
 h.keep hr.2.1.1 hr.2.1.2 ((Below.refl _ w).setCell hr.1 v) hr.2.2
theorem JP {a : Nat → Nat → Bool} {m M : Int} {j e p : Nat} {G H : Nat → Nat → Bool} (h : (∀ c p, e + 1 ≤ c → c ≤ j + 2 → p ≤ j → G c p = Qj a m M j (j + 2 - c) c p) ∧ (∀ p', p + 1 ≤ p' → p' ≤ j → G e p' = Qj a m M j (j + 2 - e) e p') ∧ (∀ p', p' < p + 1 → G e p' = false))
  (hH : ∀ c p', (c ≠ e ∨ p' ≠ p) → H c p' = G c p') (hx : H e p = Qj a m M j (j + 2 - e) e p) :
  (∀ c p, e + 1 ≤ c → c ≤ j + 2 → p ≤ j → H c p = Qj a m M j (j + 2 - c) c p) ∧ (∀ p', p ≤ p' → p' ≤ j → H e p' = Qj a m M j (j + 2 - e) e p') ∧ (∀ p', p' < p → H e p' = false) := by
 refine ⟨fun c q h1 h2 h3 => ?_, fun q h1 h2 => ?_, fun q h1 => ?_⟩
 ·rw [hH c q (.inl (by omega))]; exact h.1 c q h1 h2 h3
 ·by_cases e1 : q = p
  ·subst e1; exact hx
  ·rw [hH e q (.inr e1)]; exact h.2.1 q (by omega) h2
 ·rw [hH e q (.inr (by omega))]; exact h.2.2 q (by omega)
theorem Xe {a : Nat → Nat → Bool} {m M : Int} {j e p k : Nat} (hp : p < j) (he : e ≤ j + 2) (hk : k = j + 1 ∨ ¬ (e < j + 2 ∧ (M = -1 ∨ (e : Int) < M))) :
  ((decide (e < j + 2) && decide (M = -1 ∨ (e : Int) < M)) && zZ (p + 1) (k - 1) (fun k => a p k && Qj a m M j (j + 2 - (e + 1)) (e + 1) k)) = Qj a m M j (j + 2 - e) e p := by
 by_cases h : e < j + 2
 ·rw [show j + 2 - e = (j + 2 - (e + 1)) + 1 by omega, Qj, if_neg (by omega), decide_eq_true h, Bool.true_and]
  rcases hk with rfl | hk
  ·rfl
  ·have : ¬ (M = -1 ∨ (e : Int) < M) := fun q => hk ⟨h, q⟩
   rw [decide_eq_false this, Bool.false_and, Bool.false_and]
 ·obtain rfl : e = j + 2 := by omega
  rw [show j + 2 - (j + 2) = 0 by omega, decide_eq_false h, Qj, decide_eq_false (show ¬ p = j by omega)]
  rfl
theorem qf5 {a : Nat → Nat → Bool} {m M : Int} {j e p k : Nat} {H : Nat → Nat → Bool} {v0 : Bool} (zO : p + 1 ≤ k) (qH : k ≤ j) (he : e < j + 2) (hM : M = -1 ∨ (e : Int) < M)
  (h0 : v0 = ((decide (e < j + 2) && decide (M = -1 ∨ (e : Int) < M)) && zZ (p + 1) (k - 1) (fun k => a p k && Qj a m M j (j + 2 - (e + 1)) (e + 1) k))) :
  (v0 || (a p k && Qj a m M j (j + 2 - (e + 1)) (e + 1) k)) = ((decide (e < j + 2) && decide (M = -1 ∨ (e : Int) < M)) && zZ (p + 1) (k + 1 - 1) (fun k => a p k && Qj a m M j (j + 2 - (e + 1)) (e + 1) k)) := by
 rw [decide_eq_true he, decide_eq_true hM, Bool.true_and, Bool.true_and] at h0 ⊢
 obtain ⟨r, rfl⟩ : ∃ r, k = r + 1 := ⟨k - 1, by omega⟩
 rw [show r + 1 + 1 - 1 = r + 1 by omega, qbf (by omega)]
 rw [show r + 1 - 1 = r by omega] at h0
 rw [h0]
theorem JQ {e p : Nat} {G : Nat → Nat → Bool} {x : Bool} : ∀ c p', (c ≠ e ∨ p' ≠ p) → (fun i k => if i = e ∧ k = p then x else G i k) c p' = G c p' := fun c p' h => by
 show (if c = e ∧ p' = p then x else G c p') = _
 rw [if_neg (fun q => by rcases h with h | h; exact h q.1; exact h q.2)]
theorem qak (x : Nd) (ab n j : Nat) (RA : Nat → Nat) (a : Nat → Nat → Bool) (hn : n ≤ 100) (hj : j < n) (hx : x.Fits) (w : World) (hg : yT w ab n n RA a) :
  Calls Tryz.prog 106 #[x.v, .slice (some ⟨ab, 0, none⟩) n n, .int .i64 j] w fun e w' => (∃ b R F, e = .returned (.slice (some ⟨b, 0, none⟩) (j + 3) (j + 3)) ∧ yT w' b (j + 3) (j + 1) R F ∧ (w.heap.size ≤ b ∧ ∀ c, c < j + 3 → w.heap.size ≤ R c) ∧ ∀ c p, c ≤ j + 2 → p ≤ j → F c p = Qj a x.mn x.mx j (j + 2 - c) c p) ∧ Below w.heap.size w w' := by
 obtain ⟨A3, hA3⟩ : ∃ A, A = ((List.range (j + 3)).map fun _ => Value.slice none 0 0).toArray := ⟨_, rfl⟩
 obtain ⟨A1, hA1⟩ : ∃ A, A = ((List.range (j + 1)).map (bR fun _ => false)).toArray := ⟨_, rfl⟩
 have hm1 : ∀ W, (Instr.makeSlice 144 (.int .i64 ((j : Int) + 2 + 1)) (.int .i64 ((j : Int) + 2 + 1))).run Tryz.prog W = .ok (.slice (some ⟨W.heap.size, 0, none⟩) (j + 3) (j + 3)) (W.alloc (.cells A3 145)) := fun W => by
  have h := qai (j + 3) (by omega) W
  rw [← hA3] at h
  rw [show ((j + 3 : Nat) : Int) = (j : Int) + 2 + 1 by omega] at h; exact h
 have UZ : ∀ W, (Instr.makeSlice 145 (.int .i64 ((j : Int) + 1)) (.int .i64 ((j : Int) + 1))).run Tryz.prog W = .ok (.slice (some ⟨W.heap.size, 0, none⟩) (j + 1) (j + 1)) (W.alloc (.cells A1 4)) := fun W => by
  have h := WE (j + 1) (by omega) W
  rw [← hA1] at h
  rw [show ((j + 1 : Nat) : Int) = (j : Int) + 1 by omega] at h; exact h
 have lab := hg.top.lt
 have LRA := ξ (fun c (hc : c < n) => (hg.row c hc).lt)
 have HI0 : Hid (XO w (((w.alloc (.cells x.cells 73)).alloc (.cells A3 145))) ab n RA a x ∧ Part (((w.alloc (.cells x.cells 73)).alloc (.cells A3 145))) (w.heap.size + 1) (w.heap.size + 1) (j + 3) (j + 1) (j + 3) (fun _ => 0) (fun _ _ => false)) := ξ (by
  have qr : Below w.heap.size w ((w.alloc (.cells x.cells 73)).alloc (.cells A3 145)) := ((Below.refl _ w).alloc (Nat.le_refl _) _).alloc (by simp) _
  refine ⟨⟨hg.below qr, qr, ?_⟩, ⟨?_, fun c h1 h2 => absurd h2 (by omega), fun c d h1 h2 => absurd h2 (by omega), fun c h1 h2 => absurd h2 (by omega), Nat.le_refl _⟩⟩
  ·have h1 := zt w (.cells x.cells 73)
   have h2 := ((Below.refl (w.heap.size + 1) (w.alloc (.cells x.cells 73))).alloc (by simp) (.cells A3 145)).block w.heap.size (by omega)
   rw [h2]; exact h1
  ·have h1 := qm.new (w.alloc (.cells x.cells 73)) (j + 3) 145 (fun _ => Value.slice none 0 0)
   rw [World.size_alloc, ← hA3] at h1
   exact h1.congr fun i hi => by rw [if_neg (by omega)])
 obtain ⟨kd, w0, w1, w2, w3, xa, xb, m, M, xn⟩ := x
 have HA1 := ξ hA1
 clear hg hx hA3 hA1
 unfold Nd.v Nd.cells
 unfold Nd.cells at HI0
 go_enter Tryz.func106, Tryz.ntmps106
 go_wp2
 go_loopw [9, 10, 11] (fun cv pv kv wr => ∃ (z : Int) (d : Nat) (R : Nat → Nat) (F : Nat → Nat → Bool), d ≤ j + 3 ∧ cv = .int .i64 z ∧ z = (d : Int) - 1 ∧ XO w wr ab n RA a ⟨kd, w0, w1, w2, w3, xa, xb, m, M, xn⟩ ∧ Part wr (w.heap.size + 1) (w.heap.size + 1) (j + 3) (j + 1) d R F ∧ ∀ c p, d ≤ c → c ≤ j + 2 → p ≤ j → F c p = Qj a m M j (j + 2 - c) c p) (fun cv _ _ _ => (RowKit.intOf cv + 1).toNat)
 case atStart => exact ⟨_, j + 3, _, _, Nat.le_refl _, rfl, by omega, HI0.out.1, HI0.out.2, fun c p h1 h2 => absurd h2 (by omega)⟩
 case round =>
  obtain ⟨z, d, R, F, hd, rfl, hz, hI, hP, hF⟩ := hrel
  cases d with
  | zero =>
   obtain rfl : z = -1 := by omega
   have HG := ξ hP.grid
   have HNW : Hid (w.heap.size ≤ w.heap.size + 1 ∧ ∀ c, c < j + 3 → w.heap.size ≤ R c) := ξ ⟨Nat.le_succ _, fun c hc => by have := (hP.ne c (Nat.zero_le _) hc).2; omega⟩
   have HB := ξ hI.bel
   have HF := ξ hF
   clear hI hP hF hz
   go_wp2
   go_ret
   exact ⟨⟨_, R, F, rfl, HG.out, HNW.out, fun c p h1 h2 => HF.out c p (Nat.zero_le _) h1 h2⟩, HB.out⟩
  | succ e =>
   obtain rfl : z = (e : Int) := by omega
   have hwr : w.heap.size + 1 < wr.heap.size := hP.top.lt
   have c0 : wr.cell? ⟨w.heap.size + 1, e, none⟩ = some (.slice none 0 0) := by rw [hP.top.cell e (by omega), if_neg (by omega)]
   have f0 := hP.top.fz e
   have hP1 := hP.more (by omega : e < j + 3) (by omega) A1 HA1.out
   have hI1 := hI.keep lab LRA.out (w' := (wr.setCell ⟨w.heap.size + 1, e, none⟩ (zF wr.heap.size (j + 1))).alloc (.cells A1 4)) (((Below.refl _ wr).setCell (by simp) _).alloc (by rw [World.size_setCell]; omega) _) (by omega)
   obtain ⟨R1, hR1⟩ : ∃ R1, R1 = (fun c => if c = e then wr.heap.size else R c) := ⟨_, rfl⟩
   rw [← hR1] at hP1
   have RB := hP1.ne e (Nat.le_refl _) (by omega)
   have NE : Hid (e + 1 < j + 3 → ¬ R1 (e + 1) = R1 e) := ξ (fun h q => absurd (hP1.inj (e + 1) e (by omega) h (Nat.le_refl _) (by omega) q) (by omega))
   have TOP : Hid (∀ W, qm W (w.heap.size + 1) (j + 3) 145 (fun c => if e ≤ c then zF (R1 c) (j + 1) else .slice none 0 0) → ∀ c, e ≤ c → c < j + 3 → W.cell? ⟨w.heap.size + 1, c, none⟩ = some (.slice (some ⟨R1 c, 0, none⟩) (j + 1) (j + 1))) := ξ (fun W h c h1 h2 => by rw [h.cell c h2, if_pos h1]; rfl)
   have PUT : Hid (∀ W : World, w.heap.size + 1 ≤ W.heap.size → (w.heap.size + 1 ≤ R1 e ∧ (ab < w.heap.size ∧ ∀ c, c < n → RA c < w.heap.size) ∧ w.heap.size + 1 ≤ W.heap.size)) := ξ (fun W h => ⟨RB.2, ⟨lab, LRA.out⟩, h⟩)
   have HP1 := ξ hP1
   have HI1 := ξ hI1
   have HF := ξ hF
   have i1 : (0 : Int) ≤ (e : Int) := by omega
   have i2 : (e : Int) < (j : Int) + 3 := by omega
   clear hI hP hF hz hP1 hI1 hR1
   go_wp2
   go_loopw [10, 11] (fun pv kv wr => ∃ (y : Int) (q : Nat) (G : Nat → Nat → Bool), q ≤ j + 1 ∧ pv = .int .i64 y ∧ y = (q : Int) - 1 ∧ XO w wr ab n RA a ⟨kd, w0, w1, w2, w3, xa, xb, m, M, xn⟩ ∧ Part wr (w.heap.size + 1) (w.heap.size + 1) (j + 3) (j + 1) e R1 G ∧ (∀ c p, e + 1 ≤ c → c ≤ j + 2 → p ≤ j → G c p = Qj a m M j (j + 2 - c) c p) ∧ (∀ p, q ≤ p → p ≤ j → G e p = Qj a m M j (j + 2 - e) e p) ∧ (∀ p, p < q → G e p = false)) (fun pv _ _ => (RowKit.intOf pv + 1).toNat)
   case atStart => exact ⟨_, j + 1, _, Nat.le_refl _, rfl, by omega, HI1.out, HP1.out, fun c p h1 h2 h3 => by rw [if_neg (by omega)]; exact HF.out c p h1 h2 h3, fun p h1 h2 => absurd h2 (by omega), fun p h1 => by rw [if_pos rfl]⟩
   case round =>
    obtain ⟨y, q, G, hq, rfl, hy, hI2, hP2, hG1, hG2, hG3⟩ := hrel
    cases q with
    | zero =>
     obtain rfl : y = -1 := by omega
     have HE := ξ (ζ hI2 (ζ hP2 (ζ hG1 hG2)))
     clear hI2 hP2 hG1 hG2 hG3 hy
     go_wp2
     go_roundw
     case rel => exact ⟨_, e, R1, G, by omega, rfl, by omega, HE.out.1, HE.out.2.1, fun c p h1 h2 h3 => by
      by_cases h : c = e
      ·subst h; exact HE.out.2.2.2 p (Nat.zero_le _) h3
      ·exact HE.out.2.2.1 c p (by omega) h2 h3⟩
     case measure => (simp [RowKit.intOf]) <;> omega
    | succ p =>
     obtain rfl : y = (p : Int) := by omega
     have HQ := ξ (ζ hI2 (ζ hP2 True.intro))
     have U1 := ξ (ζ hG1 (ζ hG2 hG3))
     have i3 : (0 : Int) ≤ (p : Int) := by omega
     have lwq : w.heap.size + 1 < wr.heap.size := hP2.top.lt
     clear hI2 hP2 hG1 hG2 hG3 hy
     by_cases Jb : p = j
     ·obtain rfl : j = p := Jb.symm
      have jj : ((j : Int) == (j : Int)) = true := by simp
      have v1 : (j : Int) < (j : Int) + 1 := by omega
      have v2 : (j : Int) < (n : Int) := by omega
      by_cases hme : m ≤ (e : Int)
      ·go_wp2_with fail
       refine wp_region_noPanic ?_
       refine wp_region_held_drew (S := fun w' => XO w w' ab n RA a ⟨kd, w0, w1, w2, w3, xa, xb, m, M, xn⟩ ∧ qm w' (w.heap.size + 1) (j + 3) 145 (fun c => if e ≤ c then zF (R1 c) (j + 1) else .slice none 0 0) ∧ (e + 1 < j + 3 → ∀ k, k < j + 1 → w'.cell? ⟨R1 (e + 1), k, none⟩ = some (.bool (G (e + 1) k)))) (by kernel_rfl) ?_ (fun qe => ?_)
       ·(try dsimp only); exact ⟨HQ.out.1.drew, HQ.out.2.1.top.drew, fun h k hk => (HQ.out.2.1.row (e + 1) (by omega) h).drew.cell k hk⟩
       refine tq 0 ?_ (hy := by (intro wq2 qi; obtain ⟨sI, sT, sN⟩ := qi; go_simp); (try rfl))
       refine tq 1 ?_ (hy := by (intro wq2 qi; obtain ⟨sI, sT, sN⟩ := qi; go_simp); (try rfl))
       refine tq 2 ?_ (hy := by (intro wq2 qi; obtain ⟨sI, sT, sN⟩ := qi; go_simp); (try rfl))
       refine tq 3 ?_ (hy := by (intro wq2 qi; obtain ⟨sI, sT, sN⟩ := qi; have t0 : wq2.cell? ⟨w.heap.size + 1, e, none⟩ = some (.slice (some ⟨R1 e, 0, none⟩) (j + 1) (j + 1)) := TOP.out wq2 sT e (Nat.le_refl _) (by omega); go_simp); (try rfl))
       refine tq 4 ?_ (hy := by (intro wq2 qi; obtain ⟨sI, sT, sN⟩ := qi; go_simp); (try rfl))
       refine tq 5 ?_ (hy := by (intro wq2 qi; obtain ⟨sI, sT, sN⟩ := qi; go_simp); (try rfl))
       refine tq 6 ?_ (hy := by (intro wq2 qi; obtain ⟨sI, sT, sN⟩ := qi; go_simp); (try rfl))
       refine tq 7 ?_ (hy := by (intro wq2 qi; obtain ⟨sI, sT, sN⟩ := qi; have b7 : wq2.cell? ⟨w.heap.size, 7, none⟩ = some (.int .i64 m) := (by rw [cell_of _ _ _ _ sI.box]; rfl); go_simp); (try rfl))
       refine tq 8 ?_ (hy := by (intro wq2 qi; obtain ⟨sI, sT, sN⟩ := qi; go_simp); (try rfl))
       refine tq 9 ?_ (hy := by (intro wq2 qi; obtain ⟨sI, sT, sN⟩ := qi; go_simp); (try rfl))
       refine tv 10 ?_
       refine tv 11 ?_
       refine tv 12 ?_
       refine tv 13 ?_
       refine tv 14 ?_
       refine tv 15 ?_
       refine tv 16 ?_
       refine tq 17 ?_ (hy := by (intro wq2 qi; obtain ⟨sI, sT, sN⟩ := qi; go_simp); (try rfl))
       refine tq 18 ?_ (hy := by (intro wq2 qi; obtain ⟨sI, sT, sN⟩ := qi; go_simp); (try rfl))
       refine zU 19 fun K hK => ?_
       obtain ⟨hHI, hHT, hHN⟩ := qe
       have s0 := (HQ.out.2.1.row e (Nat.le_refl _) (by omega)).drew.cell j (by omega)
       have s1 := (HQ.out.2.1.row e (Nat.le_refl _) (by omega)).drew.fz j
       go_simp
       refine hK.out _ _ ?_ (fun qe => ?_)
       ·(try dsimp only); exact ⟨hHI.put (PUT.out _ (by have := hHT.lt; omega)) _, hHT.other (by show w.heap.size + 1 ≠ R1 e; exact fun q => RB.1 q.symm) _, fun h k hk => by rw [← hHN h k hk]; exact ja (by show ¬ (R1 (e + 1) = R1 e); exact NE.out h) _⟩
       clear hK K
       (try simp only [Act.put, zm])
       refine wpAnyH_done (by kernel_rfl) ?_ _
       refine NoPanic.normal ?_
       go_wp2
       go_roundw
       case rel => exact ⟨_, j, _, by omega, rfl, by omega, qe.1, (HQ.out.2.1.drew).set e j (Nat.le_refl _) (by omega) true, JP U1.out JQ (by rw [qdz, decide_eq_true hme]; simp)⟩
       case measure => (simp [RowKit.intOf]) <;> omega
      ·have hmd : decide (m ≤ (e : Int)) = false := decide_eq_false hme
       have HMD := ξ hmd
       go_wp2_with fail
       refine wp_region_noPanic ?_
       refine wp_region_held_drew (S := fun w' => XO w w' ab n RA a ⟨kd, w0, w1, w2, w3, xa, xb, m, M, xn⟩ ∧ qm w' (w.heap.size + 1) (j + 3) 145 (fun c => if e ≤ c then zF (R1 c) (j + 1) else .slice none 0 0) ∧ (e + 1 < j + 3 → ∀ k, k < j + 1 → w'.cell? ⟨R1 (e + 1), k, none⟩ = some (.bool (G (e + 1) k)))) (by kernel_rfl) ?_ (fun qe => ?_)
       ·(try dsimp only); exact ⟨HQ.out.1.drew, HQ.out.2.1.top.drew, fun h k hk => (HQ.out.2.1.row (e + 1) (by omega) h).drew.cell k hk⟩
       refine tq 0 ?_ (hy := by (intro wq2 qi; obtain ⟨sI, sT, sN⟩ := qi; go_simp); (try rfl))
       refine tq 1 ?_ (hy := by (intro wq2 qi; obtain ⟨sI, sT, sN⟩ := qi; go_simp); (try rfl))
       refine tq 2 ?_ (hy := by (intro wq2 qi; obtain ⟨sI, sT, sN⟩ := qi; go_simp); (try rfl))
       refine tq 3 ?_ (hy := by (intro wq2 qi; obtain ⟨sI, sT, sN⟩ := qi; have t0 : wq2.cell? ⟨w.heap.size + 1, e, none⟩ = some (.slice (some ⟨R1 e, 0, none⟩) (j + 1) (j + 1)) := TOP.out wq2 sT e (Nat.le_refl _) (by omega); go_simp); (try rfl))
       refine tq 4 ?_ (hy := by (intro wq2 qi; obtain ⟨sI, sT, sN⟩ := qi; go_simp); (try rfl))
       refine tq 5 ?_ (hy := by (intro wq2 qi; obtain ⟨sI, sT, sN⟩ := qi; go_simp); (try rfl))
       refine tq 6 ?_ (hy := by (intro wq2 qi; obtain ⟨sI, sT, sN⟩ := qi; go_simp); (try rfl))
       refine tq 7 ?_ (hy := by (intro wq2 qi; obtain ⟨sI, sT, sN⟩ := qi; have b7 : wq2.cell? ⟨w.heap.size, 7, none⟩ = some (.int .i64 m) := (by rw [cell_of _ _ _ _ sI.box]; rfl); go_simp); (try rfl))
       refine tq 8 ?_ (hy := by (intro wq2 qi; obtain ⟨sI, sT, sN⟩ := qi; go_simp); (try rfl))
       refine tq 9 ?_ (hy := by (intro wq2 qi; obtain ⟨sI, sT, sN⟩ := qi; go_simp); (try rfl))
       refine tq 10 ?_ (hy := by (intro wq2 qi; obtain ⟨sI, sT, sN⟩ := qi; go_simp); (try rfl))
       refine tq 11 ?_ (hy := by (intro wq2 qi; obtain ⟨sI, sT, sN⟩ := qi; go_simp); (try rfl))
       refine tq 12 ?_ (hy := by (intro wq2 qi; obtain ⟨sI, sT, sN⟩ := qi; go_simp); (try rfl))
       refine tq 13 ?_ (hy := by (intro wq2 qi; obtain ⟨sI, sT, sN⟩ := qi; have a0 : wq2.cell? ⟨ab, j, none⟩ = some (.slice (some ⟨RA j, 0, none⟩) n n) := sI.grid.top.cell j (by omega); have a1 : wq2.cell? ⟨RA j, j, none⟩ = some (.bool (a j j)) := (sI.grid.row j (by omega)).cell j (by omega); go_simp); (try rfl))
       refine tq 14 ?_ (hy := by (intro wq2 qi; obtain ⟨sI, sT, sN⟩ := qi; go_simp); (try rfl))
       refine tq 15 ?_ (hy := by (intro wq2 qi; obtain ⟨sI, sT, sN⟩ := qi; go_simp); (try rfl))
       refine tq 16 ?_ (hy := by (intro wq2 qi; obtain ⟨sI, sT, sN⟩ := qi; have a0 : wq2.cell? ⟨ab, j, none⟩ = some (.slice (some ⟨RA j, 0, none⟩) n n) := sI.grid.top.cell j (by omega); have a1 : wq2.cell? ⟨RA j, j, none⟩ = some (.bool (a j j)) := (sI.grid.row j (by omega)).cell j (by omega); go_simp); (try rfl))
       refine tq 17 ?_ (hy := by (intro wq2 qi; obtain ⟨sI, sT, sN⟩ := qi; go_simp); (try rfl))
       refine tq 18 ?_ (hy := by (intro wq2 qi; obtain ⟨sI, sT, sN⟩ := qi; go_simp); (try rfl))
       refine zU 19 fun K hK => ?_
       obtain ⟨hHI, hHT, hHN⟩ := qe
       have s0 := (HQ.out.2.1.row e (Nat.le_refl _) (by omega)).drew.cell j (by omega)
       have s1 := (HQ.out.2.1.row e (Nat.le_refl _) (by omega)).drew.fz j
       go_simp
       refine hK.out _ _ ?_ (fun qe => ?_)
       ·(try dsimp only); exact ⟨hHI.put (PUT.out _ (by have := hHT.lt; omega)) _, hHT.other (by show w.heap.size + 1 ≠ R1 e; exact fun q => RB.1 q.symm) _, fun h k hk => by rw [← hHN h k hk]; exact ja (by show ¬ (R1 (e + 1) = R1 e); exact NE.out h) _⟩
       clear hK K
       (try simp only [Act.put, zm])
       refine wpAnyH_done (by kernel_rfl) ?_ _
       refine NoPanic.normal ?_
       go_wp2
       go_roundw
       case rel => exact ⟨_, j, _, by omega, rfl, by omega, qe.1, ((HQ.out.2.1).set e j (Nat.le_refl _) (by omega) (a j j)).drew, JP U1.out JQ (by rw [qdz, HMD.out]; simp)⟩
       case measure => (simp [RowKit.intOf]) <;> omega
     ·have UB : p < j := by omega
      have jj : ((p : Int) == (j : Int)) = false := by rw [beq_eq_false_iff_ne]; omega
      have v1 : (p : Int) < (j : Int) + 1 := by omega
      have v2 : (p : Int) < (n : Int) := by omega
      have v2n : p < n := by omega
      go_wp2
      go_loopw [11] (fun kv wr => ∃ (k : Nat) (H : Nat → Nat → Bool), p + 1 ≤ k ∧ k ≤ j + 1 ∧ kv = .int .i64 (k : Int) ∧ XO w wr ab n RA a ⟨kd, w0, w1, w2, w3, xa, xb, m, M, xn⟩ ∧ Part wr (w.heap.size + 1) (w.heap.size + 1) (j + 3) (j + 1) e R1 H ∧ (∀ c p', (c ≠ e ∨ p' ≠ p) → H c p' = G c p') ∧ H e p = ((decide (e < j + 2) && decide (M = -1 ∨ (e : Int) < M)) && zZ (p + 1) (k - 1) (fun k => a p k && Qj a m M j (j + 2 - (e + 1)) (e + 1) k))) (fun kv _ => j + 1 - (RowKit.intOf kv).toNat)
      case atStart => exact ⟨p + 1, G, Nat.le_refl _, by omega, by go_num, HQ.out.1, HQ.out.2.1, fun _ _ _ => rfl, by rw [U1.out.2.2 p (by omega), yy (by omega)]; simp⟩
      case round =>
       obtain ⟨k, H, zO, qH, rfl, Us, hP3, hH, hacc⟩ := hrel
       clear HQ
       have HQ := ξ (ζ Us (ζ hP3 True.intro))
       have b8 : wr.cell? ⟨w.heap.size, 8, none⟩ = some (.int .i64 M) := by rw [cell_of _ _ _ _ Us.box]; rfl
       have HH := ξ (ζ hH hacc)
       have lwk : w.heap.size + 1 < wr.heap.size := hP3.top.lt
       clear Us hP3 hH hacc
       by_cases Jl : k ≤ j
       ·have k1 : (k : Int) ≤ (j : Int) := by omega
        have v3 : (k : Int) < (j : Int) + 1 := by omega
        have v4 : (k : Int) < (n : Int) := by omega
        have v4n : k < n := by omega
        have v5 : (0 : Int) ≤ (k : Int) := by omega
        by_cases hej : e < j + 2
        ·have k2 : (e : Int) < (j : Int) + 2 := by omega
         have v6 : (e : Int) + 1 < (j : Int) + 3 := by omega
         have v7 : IntKind.i64.wrap ((e : Int) + 1) = (e : Int) + 1 := by simp [IntKind.wrap, IntKind.signed, IntKind.bits]; omega
         have v8 : (0 : Int) ≤ (e : Int) + 1 := by omega
         have v9 : ((e : Int) + 1).toNat = e + 1 := by omega
         by_cases hM : M = -1 ∨ (e : Int) < M
         ·have hMB : (M == -1) = true ∨ ((M == -1) = false ∧ (e : Int) < M) := by
           by_cases q : M = -1
           ·exact .inl (by simpa using q)
           ·exact .inr ⟨by rw [beq_eq_false_iff_ne]; exact q, by omega⟩
          have HM := ξ hM
          have hx : H (e + 1) k = Qj a m M j (j + 2 - (e + 1)) (e + 1) k := by rw [HH.out.1 _ _ (.inl (by omega))]; exact U1.out.1 _ _ (Nat.le_refl _) (by omega) (by omega)
          have KM := ξ hx
          have HMO := ξ (qf5 (H := H) zO Jl hej hM HH.out.2)
          clear hM hx
          cases hv0 : H e p with
          | true =>
           have HV0 := ξ hv0
           clear hv0
           rcases hMB with VA | ⟨VA, hM2⟩
           all_goals
            go_wp2_with fail
            refine wp_region_noPanic ?_
            refine wp_region_held_drew (S := fun w' => XO w w' ab n RA a ⟨kd, w0, w1, w2, w3, xa, xb, m, M, xn⟩ ∧ qm w' (w.heap.size + 1) (j + 3) 145 (fun c => if e ≤ c then zF (R1 c) (j + 1) else .slice none 0 0) ∧ (e + 1 < j + 3 → ∀ k, k < j + 1 → w'.cell? ⟨R1 (e + 1), k, none⟩ = some (.bool (H (e + 1) k)))) (by kernel_rfl) ?_ (fun qe => ?_)
            ·(try dsimp only); exact ⟨HQ.out.1.drew, HQ.out.2.1.top.drew, fun h k hk => (HQ.out.2.1.row (e + 1) (by omega) h).drew.cell k hk⟩
            refine tq 0 ?_ (hy := by (intro wq2 qi; obtain ⟨sI, sT, sN⟩ := qi; go_simp); (try rfl))
            refine tq 1 ?_ (hy := by (intro wq2 qi; obtain ⟨sI, sT, sN⟩ := qi; go_simp); (try rfl))
            refine tq 2 ?_ (hy := by (intro wq2 qi; obtain ⟨sI, sT, sN⟩ := qi; go_simp); (try rfl))
            refine tq 3 ?_ (hy := by (intro wq2 qi; obtain ⟨sI, sT, sN⟩ := qi; have t0 : wq2.cell? ⟨w.heap.size + 1, e, none⟩ = some (.slice (some ⟨R1 e, 0, none⟩) (j + 1) (j + 1)) := TOP.out wq2 sT e (Nat.le_refl _) (by omega); go_simp); (try rfl))
            refine tq 4 ?_ (hy := by (intro wq2 qi; obtain ⟨sI, sT, sN⟩ := qi; go_simp); (try rfl))
            refine tq 5 ?_ (hy := by (intro wq2 qi; obtain ⟨sI, sT, sN⟩ := qi; go_simp); (try rfl))
            refine tq 6 ?_ (hy := by (intro wq2 qi; obtain ⟨sI, sT, sN⟩ := qi; go_simp); (try rfl))
            refine tq 7 ?_ (hy := by (intro wq2 qi; obtain ⟨sI, sT, sN⟩ := qi; go_simp); (try rfl))
            refine tq 8 ?_ (hy := by (intro wq2 qi; obtain ⟨sI, sT, sN⟩ := qi; have t0 : wq2.cell? ⟨w.heap.size + 1, e, none⟩ = some (.slice (some ⟨R1 e, 0, none⟩) (j + 1) (j + 1)) := TOP.out wq2 sT e (Nat.le_refl _) (by omega); go_simp); (try rfl))
            refine tq 9 ?_ (hy := by (intro wq2 qi; obtain ⟨sI, sT, sN⟩ := qi; go_simp); (try rfl))
            refine tq 10 ?_ (hy := by (intro wq2 qi; obtain ⟨sI, sT, sN⟩ := qi; go_simp); (try rfl))
            have s0 : (wr.drew).cell? ⟨R1 e, p, none⟩ = some (.bool true) := by have := (HQ.out.2.1.row e (Nat.le_refl _) (by omega)).drew.cell p (by omega); rw [this]; show some (Value.bool (H e p)) = _; rw [HV0.out]
            have s1 := (HQ.out.2.1.row e (Nat.le_refl _) (by omega)).drew.fz p
            refine zU 11 fun K hK => ?_
            go_simp
            refine hK.out _ _ ?_ (fun qe => ?_)
            ·(try dsimp only); exact qe
            clear hK K
            (try simp only [Act.put, zm])
            refine tq 12 ?_ (hy := by (intro wq2 qi; obtain ⟨sI, sT, sN⟩ := qi; go_simp); (try rfl))
            refine tv 13 ?_
            refine tv 14 ?_
            refine tv 15 ?_
            refine tv 16 ?_
            refine tv 17 ?_
            refine tv 18 ?_
            refine tv 19 ?_
            refine tv 20 ?_
            refine tv 21 ?_
            refine tv 22 ?_
            refine tv 23 ?_
            refine tv 24 ?_
            refine tv 25 ?_
            refine tv 26 ?_
            refine tv 27 ?_
            refine tv 28 ?_
            refine tv 29 ?_
            refine tq 30 ?_ (hy := by (intro wq2 qi; obtain ⟨sI, sT, sN⟩ := qi; go_simp); (try rfl))
            refine tq 31 ?_ (hy := by (intro wq2 qi; obtain ⟨sI, sT, sN⟩ := qi; go_simp); (try rfl))
            refine zU 32 fun K hK => ?_
            obtain ⟨hHI, hHT, hHN⟩ := qe
            go_simp
            refine hK.out _ _ ?_ (fun qe => ?_)
            ·(try dsimp only); exact ⟨hHI.put (PUT.out _ (by have := hHT.lt; omega)) _, hHT.other (by show w.heap.size + 1 ≠ R1 e; exact fun q => RB.1 q.symm) _, fun h k hk => by rw [← hHN h k hk]; exact ja (by show ¬ (R1 (e + 1) = R1 e); exact NE.out h) _⟩
            clear hK K
            (try simp only [Act.put, zm])
            refine wpAnyH_done (by kernel_rfl) ?_ _
            refine NoPanic.normal ?_
            go_wp2
            go_roundw
            case rel => exact ⟨k + 1, _, by omega, by omega, by go_num, qe.1, (HQ.out.2.1.drew).set e p (Nat.le_refl _) (by omega) true, fun c p' h => (JQ c p' h).trans (HH.out.1 c p' h), by rw [← HMO.out, HV0.out]; simp⟩
            case measure => (simp [RowKit.intOf]) <;> omega
          | false =>
           have HV0 := ξ hv0
           clear hv0
           cases Ko : a p k with
           | true =>
            have HV1 := ξ Ko
            clear Ko
            rcases hMB with VA | ⟨VA, hM2⟩
            all_goals
             go_wp2_with fail
             refine wp_region_noPanic ?_
             refine wp_region_held_drew (S := fun w' => XO w w' ab n RA a ⟨kd, w0, w1, w2, w3, xa, xb, m, M, xn⟩ ∧ qm w' (w.heap.size + 1) (j + 3) 145 (fun c => if e ≤ c then zF (R1 c) (j + 1) else .slice none 0 0) ∧ (e + 1 < j + 3 → ∀ k, k < j + 1 → w'.cell? ⟨R1 (e + 1), k, none⟩ = some (.bool (H (e + 1) k)))) (by kernel_rfl) ?_ (fun qe => ?_)
             ·(try dsimp only); exact ⟨HQ.out.1.drew, HQ.out.2.1.top.drew, fun h k hk => (HQ.out.2.1.row (e + 1) (by omega) h).drew.cell k hk⟩
             refine tq 0 ?_ (hy := by (intro wq2 qi; obtain ⟨sI, sT, sN⟩ := qi; go_simp); (try rfl))
             refine tq 1 ?_ (hy := by (intro wq2 qi; obtain ⟨sI, sT, sN⟩ := qi; go_simp); (try rfl))
             refine tq 2 ?_ (hy := by (intro wq2 qi; obtain ⟨sI, sT, sN⟩ := qi; go_simp); (try rfl))
             refine tq 3 ?_ (hy := by (intro wq2 qi; obtain ⟨sI, sT, sN⟩ := qi; have t0 : wq2.cell? ⟨w.heap.size + 1, e, none⟩ = some (.slice (some ⟨R1 e, 0, none⟩) (j + 1) (j + 1)) := TOP.out wq2 sT e (Nat.le_refl _) (by omega); go_simp); (try rfl))
             refine tq 4 ?_ (hy := by (intro wq2 qi; obtain ⟨sI, sT, sN⟩ := qi; go_simp); (try rfl))
             refine tq 5 ?_ (hy := by (intro wq2 qi; obtain ⟨sI, sT, sN⟩ := qi; go_simp); (try rfl))
             refine tq 6 ?_ (hy := by (intro wq2 qi; obtain ⟨sI, sT, sN⟩ := qi; go_simp); (try rfl))
             refine tq 7 ?_ (hy := by (intro wq2 qi; obtain ⟨sI, sT, sN⟩ := qi; go_simp); (try rfl))
             refine tq 8 ?_ (hy := by (intro wq2 qi; obtain ⟨sI, sT, sN⟩ := qi; have t0 : wq2.cell? ⟨w.heap.size + 1, e, none⟩ = some (.slice (some ⟨R1 e, 0, none⟩) (j + 1) (j + 1)) := TOP.out wq2 sT e (Nat.le_refl _) (by omega); go_simp); (try rfl))
             refine tq 9 ?_ (hy := by (intro wq2 qi; obtain ⟨sI, sT, sN⟩ := qi; go_simp); (try rfl))
             refine tq 10 ?_ (hy := by (intro wq2 qi; obtain ⟨sI, sT, sN⟩ := qi; go_simp); (try rfl))
             have s0 : (wr.drew).cell? ⟨R1 e, p, none⟩ = some (.bool false) := by have := (HQ.out.2.1.row e (Nat.le_refl _) (by omega)).drew.cell p (by omega); rw [this]; show some (Value.bool (H e p)) = _; rw [HV0.out]
             have s1 := (HQ.out.2.1.row e (Nat.le_refl _) (by omega)).drew.fz p
             refine zU 11 fun K hK => ?_
             go_simp
             refine hK.out _ _ ?_ (fun qe => ?_)
             ·(try dsimp only); exact qe
             clear hK K
             (try simp only [Act.put, zm])
             refine tq 12 ?_ (hy := by (intro wq2 qi; obtain ⟨sI, sT, sN⟩ := qi; go_simp); (try rfl))
             refine tq 13 ?_ (hy := by (intro wq2 qi; obtain ⟨sI, sT, sN⟩ := qi; go_simp); (try rfl))
             refine tq 14 ?_ (hy := by (intro wq2 qi; obtain ⟨sI, sT, sN⟩ := qi; go_simp); (try rfl))
             refine tq 15 ?_ (hy := by (intro wq2 qi; obtain ⟨sI, sT, sN⟩ := qi; go_simp); (try rfl))
             refine tq 16 ?_ (hy := by (intro wq2 qi; obtain ⟨sI, sT, sN⟩ := qi; have a0 : wq2.cell? ⟨ab, p, none⟩ = some (.slice (some ⟨RA p, 0, none⟩) n n) := sI.grid.top.cell p (by omega); have a1 : wq2.cell? ⟨RA p, k, none⟩ = some (.bool true) := (by rw [(sI.grid.row p (by omega)).cell k (by omega)]; show some (Value.bool (a p k)) = _; rw [HV1.out]); go_simp); (try rfl))
             refine tq 17 ?_ (hy := by (intro wq2 qi; obtain ⟨sI, sT, sN⟩ := qi; go_simp); (try rfl))
             refine tq 18 ?_ (hy := by (intro wq2 qi; obtain ⟨sI, sT, sN⟩ := qi; go_simp); (try rfl))
             refine tq 19 ?_ (hy := by (intro wq2 qi; obtain ⟨sI, sT, sN⟩ := qi; have a0 : wq2.cell? ⟨ab, p, none⟩ = some (.slice (some ⟨RA p, 0, none⟩) n n) := sI.grid.top.cell p (by omega); have a1 : wq2.cell? ⟨RA p, k, none⟩ = some (.bool true) := (by rw [(sI.grid.row p (by omega)).cell k (by omega)]; show some (Value.bool (a p k)) = _; rw [HV1.out]); go_simp); (try rfl))
             refine tq 20 ?_ (hy := by (intro wq2 qi; obtain ⟨sI, sT, sN⟩ := qi; go_simp); (try rfl))
             refine tq 21 ?_ (hy := by (intro wq2 qi; obtain ⟨sI, sT, sN⟩ := qi; go_simp); (try rfl))
             refine tq 22 ?_ (hy := by (intro wq2 qi; obtain ⟨sI, sT, sN⟩ := qi; go_simp); (try rfl))
             refine tq 23 ?_ (hy := by (intro wq2 qi; obtain ⟨sI, sT, sN⟩ := qi; go_simp); (try rfl))
             refine tq 24 ?_ (hy := by (intro wq2 qi; obtain ⟨sI, sT, sN⟩ := qi; go_simp); (try rfl))
             refine tq 25 ?_ (hy := by (intro wq2 qi; obtain ⟨sI, sT, sN⟩ := qi; have t1 : wq2.cell? ⟨w.heap.size + 1, e + 1, none⟩ = some (.slice (some ⟨R1 (e + 1), 0, none⟩) (j + 1) (j + 1)) := TOP.out wq2 sT (e + 1) (by omega) (by omega); go_simp); (try rfl))
             refine tq 26 ?_ (hy := by (intro wq2 qi; obtain ⟨sI, sT, sN⟩ := qi; go_simp); (try rfl))
             refine tq 27 ?_ (hy := by (intro wq2 qi; obtain ⟨sI, sT, sN⟩ := qi; go_simp); (try rfl))
             refine tq 28 ?_ (hy := by (intro wq2 qi; obtain ⟨sI, sT, sN⟩ := qi; have n1 : wq2.cell? ⟨R1 (e + 1), k, none⟩ = some (.bool (H (e + 1) k)) := sN (by omega) k (by omega); go_simp); (try rfl))
             refine tq 29 ?_ (hy := by (intro wq2 qi; obtain ⟨sI, sT, sN⟩ := qi; go_simp); (try rfl))
             refine tq 30 ?_ (hy := by (intro wq2 qi; obtain ⟨sI, sT, sN⟩ := qi; go_simp); (try rfl))
             refine tq 31 ?_ (hy := by (intro wq2 qi; obtain ⟨sI, sT, sN⟩ := qi; go_simp); (try rfl))
             refine zU 32 fun K hK => ?_
             obtain ⟨hHI, hHT, hHN⟩ := qe
             go_simp
             refine hK.out _ _ ?_ (fun qe => ?_)
             ·(try dsimp only); exact ⟨hHI.put (PUT.out _ (by have := hHT.lt; omega)) _, hHT.other (by show w.heap.size + 1 ≠ R1 e; exact fun q => RB.1 q.symm) _, fun h k hk => by rw [← hHN h k hk]; exact ja (by show ¬ (R1 (e + 1) = R1 e); exact NE.out h) _⟩
             clear hK K
             (try simp only [Act.put, zm])
             refine wpAnyH_done (by kernel_rfl) ?_ _
             refine NoPanic.normal ?_
             go_wp2
             go_roundw
             case rel => exact ⟨k + 1, _, by omega, by omega, by go_num, qe.1, (HQ.out.2.1.drew).set e p (Nat.le_refl _) (by omega) (H (e + 1) k), fun c p' h => (JQ c p' h).trans (HH.out.1 c p' h), by rw [← HMO.out, HV0.out, HV1.out, KM.out]; simp⟩
             case measure => (simp [RowKit.intOf]) <;> omega
           | false =>
            have HV1 := ξ Ko
            clear Ko
            rcases hMB with VA | ⟨VA, hM2⟩
            all_goals
             go_wp2_with fail
             refine wp_region_noPanic ?_
             refine wp_region_held_drew (S := fun w' => XO w w' ab n RA a ⟨kd, w0, w1, w2, w3, xa, xb, m, M, xn⟩ ∧ qm w' (w.heap.size + 1) (j + 3) 145 (fun c => if e ≤ c then zF (R1 c) (j + 1) else .slice none 0 0) ∧ (e + 1 < j + 3 → ∀ k, k < j + 1 → w'.cell? ⟨R1 (e + 1), k, none⟩ = some (.bool (H (e + 1) k)))) (by kernel_rfl) ?_ (fun qe => ?_)
             ·(try dsimp only); exact ⟨HQ.out.1.drew, HQ.out.2.1.top.drew, fun h k hk => (HQ.out.2.1.row (e + 1) (by omega) h).drew.cell k hk⟩
             refine tq 0 ?_ (hy := by (intro wq2 qi; obtain ⟨sI, sT, sN⟩ := qi; go_simp); (try rfl))
             refine tq 1 ?_ (hy := by (intro wq2 qi; obtain ⟨sI, sT, sN⟩ := qi; go_simp); (try rfl))
             refine tq 2 ?_ (hy := by (intro wq2 qi; obtain ⟨sI, sT, sN⟩ := qi; go_simp); (try rfl))
             refine tq 3 ?_ (hy := by (intro wq2 qi; obtain ⟨sI, sT, sN⟩ := qi; have t0 : wq2.cell? ⟨w.heap.size + 1, e, none⟩ = some (.slice (some ⟨R1 e, 0, none⟩) (j + 1) (j + 1)) := TOP.out wq2 sT e (Nat.le_refl _) (by omega); go_simp); (try rfl))
             refine tq 4 ?_ (hy := by (intro wq2 qi; obtain ⟨sI, sT, sN⟩ := qi; go_simp); (try rfl))
             refine tq 5 ?_ (hy := by (intro wq2 qi; obtain ⟨sI, sT, sN⟩ := qi; go_simp); (try rfl))
             refine tq 6 ?_ (hy := by (intro wq2 qi; obtain ⟨sI, sT, sN⟩ := qi; go_simp); (try rfl))
             refine tq 7 ?_ (hy := by (intro wq2 qi; obtain ⟨sI, sT, sN⟩ := qi; go_simp); (try rfl))
             refine tq 8 ?_ (hy := by (intro wq2 qi; obtain ⟨sI, sT, sN⟩ := qi; have t0 : wq2.cell? ⟨w.heap.size + 1, e, none⟩ = some (.slice (some ⟨R1 e, 0, none⟩) (j + 1) (j + 1)) := TOP.out wq2 sT e (Nat.le_refl _) (by omega); go_simp); (try rfl))
             refine tq 9 ?_ (hy := by (intro wq2 qi; obtain ⟨sI, sT, sN⟩ := qi; go_simp); (try rfl))
             refine tq 10 ?_ (hy := by (intro wq2 qi; obtain ⟨sI, sT, sN⟩ := qi; go_simp); (try rfl))
             have s0 : (wr.drew).cell? ⟨R1 e, p, none⟩ = some (.bool false) := by have := (HQ.out.2.1.row e (Nat.le_refl _) (by omega)).drew.cell p (by omega); rw [this]; show some (Value.bool (H e p)) = _; rw [HV0.out]
             have s1 := (HQ.out.2.1.row e (Nat.le_refl _) (by omega)).drew.fz p
             refine zU 11 fun K hK => ?_
             go_simp
             refine hK.out _ _ ?_ (fun qe => ?_)
             ·(try dsimp only); exact qe
             clear hK K
             (try simp only [Act.put, zm])
             refine tq 12 ?_ (hy := by (intro wq2 qi; obtain ⟨sI, sT, sN⟩ := qi; go_simp); (try rfl))
             refine tq 13 ?_ (hy := by (intro wq2 qi; obtain ⟨sI, sT, sN⟩ := qi; go_simp); (try rfl))
             refine tq 14 ?_ (hy := by (intro wq2 qi; obtain ⟨sI, sT, sN⟩ := qi; go_simp); (try rfl))
             refine tq 15 ?_ (hy := by (intro wq2 qi; obtain ⟨sI, sT, sN⟩ := qi; go_simp); (try rfl))
             refine tq 16 ?_ (hy := by (intro wq2 qi; obtain ⟨sI, sT, sN⟩ := qi; have a0 : wq2.cell? ⟨ab, p, none⟩ = some (.slice (some ⟨RA p, 0, none⟩) n n) := sI.grid.top.cell p (by omega); have a1 : wq2.cell? ⟨RA p, k, none⟩ = some (.bool false) := (by rw [(sI.grid.row p (by omega)).cell k (by omega)]; show some (Value.bool (a p k)) = _; rw [HV1.out]); go_simp); (try rfl))
             refine tq 17 ?_ (hy := by (intro wq2 qi; obtain ⟨sI, sT, sN⟩ := qi; go_simp); (try rfl))
             refine tq 18 ?_ (hy := by (intro wq2 qi; obtain ⟨sI, sT, sN⟩ := qi; go_simp); (try rfl))
             refine tq 19 ?_ (hy := by (intro wq2 qi; obtain ⟨sI, sT, sN⟩ := qi; have a0 : wq2.cell? ⟨ab, p, none⟩ = some (.slice (some ⟨RA p, 0, none⟩) n n) := sI.grid.top.cell p (by omega); have a1 : wq2.cell? ⟨RA p, k, none⟩ = some (.bool false) := (by rw [(sI.grid.row p (by omega)).cell k (by omega)]; show some (Value.bool (a p k)) = _; rw [HV1.out]); go_simp); (try rfl))
             refine tq 20 ?_ (hy := by (intro wq2 qi; obtain ⟨sI, sT, sN⟩ := qi; go_simp); (try rfl))
             refine tv 21 ?_
             refine tv 22 ?_
             refine tv 23 ?_
             refine tv 24 ?_
             refine tv 25 ?_
             refine tv 26 ?_
             refine tv 27 ?_
             refine tv 28 ?_
             refine tq 29 ?_ (hy := by (intro wq2 qi; obtain ⟨sI, sT, sN⟩ := qi; go_simp); (try rfl))
             refine tq 30 ?_ (hy := by (intro wq2 qi; obtain ⟨sI, sT, sN⟩ := qi; go_simp); (try rfl))
             refine tq 31 ?_ (hy := by (intro wq2 qi; obtain ⟨sI, sT, sN⟩ := qi; go_simp); (try rfl))
             refine zU 32 fun K hK => ?_
             obtain ⟨hHI, hHT, hHN⟩ := qe
             go_simp
             refine hK.out _ _ ?_ (fun qe => ?_)
             ·(try dsimp only); exact ⟨hHI.put (PUT.out _ (by have := hHT.lt; omega)) _, hHT.other (by show w.heap.size + 1 ≠ R1 e; exact fun q => RB.1 q.symm) _, fun h k hk => by rw [← hHN h k hk]; exact ja (by show ¬ (R1 (e + 1) = R1 e); exact NE.out h) _⟩
             clear hK K
             (try simp only [Act.put, zm])
             refine wpAnyH_done (by kernel_rfl) ?_ _
             refine NoPanic.normal ?_
             go_wp2
             go_roundw
             case rel => exact ⟨k + 1, _, by omega, by omega, by go_num, qe.1, (HQ.out.2.1.drew).set e p (Nat.le_refl _) (by omega) false, fun c p' h => (JQ c p' h).trans (HH.out.1 c p' h), by rw [← HMO.out, HV0.out, HV1.out]; simp⟩
             case measure => (simp [RowKit.intOf]) <;> omega
         ·have VA : (M == -1) = false := by rw [beq_eq_false_iff_ne]; exact fun q => hM (.inl q)
          have hM2 : ¬ (e : Int) < M := fun q => hM (.inr q)
          go_wp2
          go_roundw
          case rel => exact ⟨_, p, H, by omega, rfl, by omega, HQ.out.1, HQ.out.2.1, JP U1.out HH.out.1 (HH.out.2.trans (Xe UB (by omega) (.inr fun q => hM q.2)))⟩
          case measure => (simp [RowKit.intOf]) <;> omega
        ·have k2 : ¬ (e : Int) < (j : Int) + 2 := by omega
         go_wp2
         go_roundw
         case rel => exact ⟨_, p, H, by omega, rfl, by omega, HQ.out.1, HQ.out.2.1, JP U1.out HH.out.1 (HH.out.2.trans (Xe UB (by omega) (.inr fun q => hej q.1)))⟩
         case measure => (simp [RowKit.intOf]) <;> omega
       ·have k1 : ¬ (k : Int) ≤ (j : Int) := by omega
        go_wp2
        go_roundw
        case rel => exact ⟨_, p, H, by omega, rfl, by omega, HQ.out.1, HQ.out.2.1, JP U1.out HH.out.1 (HH.out.2.trans (Xe UB (by omega) (.inl (by omega))))⟩
        case measure => (simp [RowKit.intOf]) <;> omega
end Go.Proofs.YtjgegohidhdbpaaGreatDoor
