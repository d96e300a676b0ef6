/- A trial: run. -/
import Derived.Test.YtjgegohidhdbpaaGreatDoorJMbN
import Derived.Test.YtjgegohidhdbpaaGreatDoorJMbV
import Derived.Deep.RegionWith
set_option linter.unusedVariables false
set_option linter.unusedSimpArgs false
set_option maxRecDepth 100000
set_option maxHeartbeats 40000000
namespace Go.Proofs.YtjgegohidhdbpaaGreatDoor
open Go.RowKit
theorem yG {s : List UInt8} {F : Nat → Bool} {m M : Int} {k c j : Nat} (hk : k ≤ s.length) (Kp : (c : Int) = M ∨ k = s.length ∨ ∃ b, s[k]? = some b ∧ F b.toNat = false) : kg s F m M (s.length - k) k c j = (decide (m ≤ c) && decide (j = k)) := by
 rcases Nat.lt_or_ge k s.length with h | h
 ·obtain ⟨f, hf⟩ : ∃ f, s.length - k = f + 1 := ⟨s.length - k - 1, by omega⟩
  rw [hf, kg]
  rcases Kp with e | e | ⟨b, hb, e⟩
  ·simp [e]
  ·omega
  ·simp [hb, e]
 ·obtain rfl : k = s.length := by omega
  rw [Nat.sub_self, kg]
theorem run_go {s : List UInt8} {F : Nat → Bool} {m M : Int} {k c j : Nat} {b : UInt8} (hk : k < s.length) (hb : s[k]? = some b) (hF : F b.toNat = true) (hM : (c : Int) ≠ M) : kg s F m M (s.length - k) k c j = ((decide (m ≤ c) && decide (j = k)) || kg s F m M (s.length - (k + 1)) (k + 1) (c + 1) j) := by
 obtain ⟨f, hf⟩ : ∃ f, s.length - k = f + 1 := ⟨s.length - k - 1, by omega⟩
 rw [hf, kg, hb, show s.length - (k + 1) = f by omega]
 simp [hF, hM]
structure RS (W w : World) (b N : Nat) (g : Nat → Bool) (O1 O2 : Array Value) : Prop where
 row : qI W b N g
 k : qb (fun i => i = b) w W
 b1 : zG W w.heap.size O1 57
 b2 : zG W (w.heap.size + 1) O2 55
theorem RS.below {W w W' : World} {b N : Nat} {g : Nat → Bool} {O1 O2 : Array Value} (h : RS W w b N g O1 O2) (hB : Below W.heap.size W W') : RS W' w b N g O1 O2 :=
 ⟨h.row.below hB h.row.lt, h.k.trans (qb.of_below hB), h.b1.below hB h.b1.lt, h.b2.below hB h.b2.lt⟩
theorem RS.below' {W w W' : World} {b N : Nat} {g : Nat → Bool} {O1 O2 : Array Value} (h : RS W w b N g O1 O2) (hB : Below W.drew.heap.size W.drew W') : RS W' w b N g O1 O2 := h.below ⟨hB.os, hB.tape, hB.output, hB.size, hB.block⟩
theorem RS.drew {W w : World} {b N : Nat} {g : Nat → Bool} {O1 O2 : Array Value} (h : RS W w b N g O1 O2) : RS W.drew w b N g O1 O2 := ⟨h.row.drew, h.k.drew, h.b1.drew, h.b2.drew⟩
theorem RS.put {W w : World} {b N : Nat} {g : Nat → Bool} {O1 O2 : Array Value} (h : RS W w b N g O1 O2) (hb : b < w.heap.size) (k : Nat) : RS ((W.setCell ⟨b, k / 64, none⟩ (.int .u64 (wd (fun i => g i || i == k) (k / 64)))).drew) w b N (fun i => g i || i == k) O1 O2 :=
 ⟨(h.row.put k).drew, (h.k.setCell (p := ⟨b, k / 64, none⟩) rfl _).drew, (h.b1.other (p := ⟨b, k / 64, none⟩) (by show w.heap.size ≠ b; omega) _).drew, (h.b2.other (p := ⟨b, k / 64, none⟩) (by show w.heap.size + 1 ≠ b; omega) _).drew⟩
theorem qmm (X p b N q : Nat) (v : kU) (s : List UInt8) (xs : List Nd) (x y : Nd) (hxa : x.a = q) (hq : q < v.n) (hn : v.n ≤ 120) (hy : xs[q]? = some y) (hyf : y.Fits) (hm : 0 ≤ x.mn ∧ x.mn ≤ 255) (hp : p ≤ s.length) (hs : s.length ≤ 999999) (hN : N = s.length / 64 + 1) (f : Nat → Bool)
  (w : World) (h : km w X v s) (hl : qn w v.lb v.lo xs) (hf : qI w b N f) (GE : X ≠ b) (hlb : v.lb ≠ b) :
  Calls Tryz.prog 146 #[.pointer (some ⟨X, 0, none⟩), .slice (some ⟨b, 0, none⟩) N N, Je x, .int .i64 p] w fun e w' => e = .returned (.tuple #[]) ∧ qI w' b N (fun i => f i || kg s y.set x.mn x.mx (s.length - p) p 0 i) ∧ qb (fun i => i = b) w w' := by
 have q0 := h.c0
 have q1 := h.c1
 have d := hl.cell q y hy
 have lX := h.lt
 have lb := hl.lt
 have lf := hf.lt
 have ko := ξ h
 have HN := ξ hN
 clear hN
 have qms : y.set = qS y.w0 y.w1 y.w2 y.w3 := rfl
 obtain ⟨F, hF⟩ : ∃ F, F = y.set := ⟨_, rfl⟩
 rw [← hF]
 obtain ⟨lb', lo, n, lc, rb, bn, br, bl, lp⟩ := v
 simp only at *
 obtain ⟨ky, u0, u1, u2, u3, ya, yb, ym, yM, yn⟩ := y
 obtain ⟨kd, w0, w1, w2, w3, xa, xb, m, M, xn⟩ := x
 simp only at *
 subst hxa
 have d1 : w.cell? ⟨lb', lo + q * 10 + 1, none⟩ = some (.int .u64 u0) := d 1 _ rfl
 have d2 : w.cell? ⟨lb', lo + q * 10 + 2, none⟩ = some (.int .u64 u1) := d 2 _ rfl
 have d3 : w.cell? ⟨lb', lo + q * 10 + 3, none⟩ = some (.int .u64 u2) := d 3 _ rfl
 have d4 : w.cell? ⟨lb', lo + q * 10 + 4, none⟩ = some (.int .u64 u3) := d 4 _ rfl
 clear d
 obtain ⟨O1, hO1⟩ : ∃ O1 : Array Value, O1 = (nA kd w0 w1 w2 w3 q xb m M xn) := ⟨_, rfl⟩
 have q0' := qa (.cells (nA kd w0 w1 w2 w3 q xb m M xn) 57) q0
 have q0'' := qa (.cells #[.int .u64 0, .int .u64 0, .int .u64 0, .int .u64 0] 55) q0'
 have d1' := qa (.cells (nA kd w0 w1 w2 w3 q xb m M xn) 57) d1
 have d1'' := qa (.cells #[.int .u64 0, .int .u64 0, .int .u64 0, .int .u64 0] 55) d1'
 have d2' := qa (.cells (nA kd w0 w1 w2 w3 q xb m M xn) 57) d2
 have d2'' := qa (.cells #[.int .u64 0, .int .u64 0, .int .u64 0, .int .u64 0] 55) d2'
 have d3' := qa (.cells (nA kd w0 w1 w2 w3 q xb m M xn) 57) d3
 have d3'' := qa (.cells #[.int .u64 0, .int .u64 0, .int .u64 0, .int .u64 0] 55) d3'
 have d4' := qa (.cells (nA kd w0 w1 w2 w3 q xb m M xn) 57) d4
 have d4'' := qa (.cells #[.int .u64 0, .int .u64 0, .int .u64 0, .int .u64 0] 55) d4'
 obtain ⟨O2, vX⟩ : ∃ O2 : Array Value, O2 = #[.int .u64 u0, .int .u64 u1, .int .u64 u2, .int .u64 u3] := ⟨_, rfl⟩
 have hRS0 : RS (((w.alloc (.cells O1 57)).alloc (.cells O2 55)).drew) w b N f O1 O2 :=
  ⟨((hf.alloc _).alloc _).drew, (((qb.refl _ w).alloc _).alloc _).drew, ((zG.new w O1 _).alloc _).drew, (by
   have := zG.new (w.alloc (.cells O1 57)) O2 55
   rw [World.size_alloc] at this
   exact this.drew)⟩
 have HR0 := ξ hRS0
 rw [hF, qms] at *
 obtain ⟨a0, a1, a2, a3⟩ := jK hyf.s0 hyf.s1 hyf.s2 hyf.s3
 have hc := fun (z : UInt8) w => qg2 (qS u0 u1 u2 u3) z.toNat (by have := z.toNat_lt; omega) w
 unfold sv at hc
 rw [a0, a1, a2, a3] at hc
 obtain ⟨F', hF'⟩ : ∃ F', F' = qS u0 u1 u2 u3 := ⟨_, rfl⟩
 rw [← hF'] at hc ⊢
 have HC := ξ hc
 have HO1 := ξ hO1
 have K8 := ξ vX
 clear hc a0 a1 a2 a3 hF' hRS0
 unfold Je
 simp only
 go_enter Tryz.func146, Tryz.ntmps146
 go_wp2_with fail
 go_region
 clear q0' q0'' d1' d1'' d2' d2'' d3' d3'' d4' d4'' d1 d2 d3 d4
 go_wp2
 go_loopw [3, 9] (fun pv cv wr => ∃ (k c : Nat) (g : Nat → Bool), pv = .int .i64 k ∧ cv = .int .i64 c ∧ k ≤ s.length ∧ c ≤ k ∧ RS wr w b N g O1 O2 ∧ ∀ i, (g i || kg s F' m M (s.length - k) k c i) = (f i || kg s F' m M (s.length - p) p 0 i)) (fun pv _ _ => s.length - (RowKit.intOf pv).toNat)
 case atStart =>
  have h0 := HR0.out
  rw [HO1.out, K8.out] at h0
  rw [HO1.out, K8.out]
  exact ⟨p, 0, f, rfl, rfl, hp, by omega, h0, fun i => rfl⟩
 case round =>
  obtain ⟨k, c, g, rfl, rfl, hks, XH, hW, hg⟩ := hrel
  by_cases hmc : m ≤ (c : Int)
  ·have kW := WX b N N k g (by have := HN.out; omega) (by omega) wr hW.row
   have Vy := hW.put lf k
   have hEQ : (∀ i, kg s F' m M (s.length - k) k c i = (decide (m ≤ c) && decide (i = k))) → (fun i => g i || i == k) = (fun i => f i || kg s F' m M (s.length - p) p 0 i) := fun Kp => by
    funext i
    rw [← hg i, Kp i]
    have eb : (i == k) = decide (i = k) := rfl
    simp [hmc, eb]
   have hNX : (∀ i, kg s F' m M (s.length - k) k c i = ((decide (m ≤ c) && decide (i = k)) || kg s F' m M (s.length - (k + 1)) (k + 1) (c + 1) i)) → ∀ i, ((g i || i == k) || kg s F' m M (s.length - (k + 1)) (k + 1) (c + 1) i) = (f i || kg s F' m M (s.length - p) p 0 i) := fun VT i => by
    rw [← hg i, VT i]
    have eb : (i == k) = decide (i = k) := rfl
    simp [hmc, Bool.or_assoc, eb]
   have Kk := ξ kW
   have HEQ := ξ hEQ
   have HNX := ξ hNX
   have c7 : wr.cell? ⟨w.heap.size, 7, none⟩ = some (.int .i64 m) := (hW.b1.cell 7).trans (by rw [HO1.out]; rfl)
   obtain ⟨W2, hW2d⟩ : ∃ W2, W2 = ((wr.setCell ⟨b, k / 64, none⟩ (.int .u64 (wd (fun i => g i || i == k) (k / 64)))).drew) := ⟨_, rfl⟩
   rw [← hW2d] at Vy Kk
   have HW := ξ Vy
   clear kW hEQ hNX hg hW
   go_wp2_with fail
   refine Kk.out.mono ?_
   rintro e w2 ⟨rfl, rfl⟩
   clear Kk c7 hW2d
   have c8 : w2.cell? ⟨w.heap.size, 8, none⟩ = some (.int .i64 M) := (Vy.b1.cell 8).trans (by rw [HO1.out]; rfl)
   have z0 : w2.cell? ⟨w.heap.size + 1, 0, none⟩ = some (.int .u64 u0) := (Vy.b2.cell 0).trans (by rw [K8.out]; rfl)
   have z1 : w2.cell? ⟨w.heap.size + 1, 1, none⟩ = some (.int .u64 u1) := (Vy.b2.cell 1).trans (by rw [K8.out]; rfl)
   have z2 : w2.cell? ⟨w.heap.size + 1, 2, none⟩ = some (.int .u64 u2) := (Vy.b2.cell 2).trans (by rw [K8.out]; rfl)
   have z3 : w2.cell? ⟨w.heap.size + 1, 3, none⟩ = some (.int .u64 u3) := (Vy.b2.cell 3).trans (by rw [K8.out]; rfl)
   have x1 := (ko.out.keeps Vy.k GE).c1
   clear Vy
   by_cases hM : (c : Int) = M
   ·have hMb : ((c : Int) == M) = true := by simpa using hM
    have vk : ∀ i, kg s F' m M (s.length - k) k c i = (decide (m ≤ c) && decide (i = k)) := fun i => yG hks (.inl hM)
    have VP := ξ vk
    clear vk hM
    go_wp2_with fail
    go_region
    all_goals
     go_wp2
     first | go_end0 | refine bodyPost_ret (results_none rfl _ _ _) rfl ?_
     exact ⟨rfl, by rw [← HEQ.out VP.out]; exact HW.out.drew.row, HW.out.drew.k⟩
   ·have hMb : ((c : Int) == M) = false := by rw [beq_eq_false_iff_ne]; exact hM
    by_cases jl : k = s.length
    ·have hkb : ((k : Int) == (s.length : Int)) = true := by subst jl; simp
     have vk : ∀ i, kg s F' m M (s.length - k) k c i = (decide (m ≤ c) && decide (i = k)) := fun i => yG hks (.inr (.inl jl))
     have VP := ξ vk
     clear vk hM jl
     go_wp2_with fail
     go_region
     all_goals
      go_wp2
      first | go_end0 | refine bodyPost_ret (results_none rfl _ _ _) rfl ?_
      exact ⟨rfl, by rw [← HEQ.out VP.out]; exact HW.out.drew.row, HW.out.drew.k⟩
    ·have hkb : ((k : Int) == (s.length : Int)) = false := by rw [beq_eq_false_iff_ne]; omega
     have zb : k < s.length := by omega
     have hb : s[k]? = some s[k] := List.getElem?_eq_getElem zb
     have HCk := ξ (HC.out s[k])
     cases VN : F' s[k].toNat with
     | false =>
      have vk : ∀ i, kg s F' m M (s.length - k) k c i = (decide (m ≤ c) && decide (i = k)) := fun i => yG hks (.inr (.inr ⟨_, hb, VN⟩))
      have VP := ξ vk
      clear vk hM jl hb
      rw [VN] at HCk
      clear VN
      go_wp2_with fail
      refine wp_region_noPanic ?_
      refine wp_region_held_drew (S := fun wq => RS wq w b N (fun i => g i || i == k) O1 O2) (by kernel_rfl) ?_ (fun qe => ?_)
      ·(try dsimp only); exact HW.out.drew
      refine tq 0 ?_
      refine tq 1 ?_
      refine tq 2 ?_ (hy := by (intro wq qi; have c8 : wq.cell? ⟨w.heap.size, 8, none⟩ = some (.int .i64 M) := (qi.b1.cell 8).trans (by rw [HO1.out]; rfl); go_simp); (try rfl))
      refine tq 3 ?_
      refine tq 4 ?_
      refine tq 5 ?_
      refine tq 6 ?_
      refine tq 7 ?_
      refine tq 8 ?_
      refine tq 9 ?_ (hy := by (intro wq qi; have x1 := (ko.out.keeps qi.k GE).c1; go_simp); (try rfl))
      refine tq 10 ?_
      refine tq 11 ?_
      refine tq 12 ?_
      refine tq 13 ?_
      refine tq 14 ?_ (hy := by (intro wq qi; have z0 : wq.cell? ⟨w.heap.size + 1, 0, none⟩ = some (.int .u64 u0) := (qi.b2.cell 0).trans (by rw [K8.out]; rfl); have z1 : wq.cell? ⟨w.heap.size + 1, 1, none⟩ = some (.int .u64 u1) := (qi.b2.cell 1).trans (by rw [K8.out]; rfl); have z2 : wq.cell? ⟨w.heap.size + 1, 2, none⟩ = some (.int .u64 u2) := (qi.b2.cell 2).trans (by rw [K8.out]; rfl); have z3 : wq.cell? ⟨w.heap.size + 1, 3, none⟩ = some (.int .u64 u3) := (qi.b2.cell 3).trans (by rw [K8.out]; rfl); go_simp); (try rfl))
      refine tq 15 ?_
      refine tq 16 ?_
      refine tq 17 ?_
      refine tq 18 ?_ (hy := by (intro wq qi; have x1 := (ko.out.keeps qi.k GE).c1; go_simp); (try rfl))
      refine tq 19 ?_
      refine tq 20 ?_
      refine zU 21 fun K hK => ?_
      go_simp
      refine (HCk.out _).mono ?_
      rintro e w3 ⟨rfl, qQ⟩
      refine hK.out _ _ ?_ (fun qe => ?_)
      ·(try dsimp only); first | exact qe.below qQ | exact qe.below' qQ
      clear hK K
      try simp only [Act.put, zm]
      refine tq 22 ?_
      refine tq 23 ?_
      refine wpAnyH_done (by kernel_rfl) ?_ _
      refine NoPanic.normal ?_
      go_wp2
      first | go_end0 | refine bodyPost_ret (results_none rfl _ _ _) rfl ?_
      exact ⟨rfl, by rw [← HEQ.out VP.out]; exact qe.row, qe.k⟩
     | true =>
      have VT : ∀ i, kg s F' m M (s.length - k) k c i = ((decide (m ≤ c) && decide (i = k)) || kg s F' m M (s.length - (k + 1)) (k + 1) (c + 1) i) := fun i => run_go zb hb VN hM
      have HGO := ξ VT
      clear VT hM jl hb
      rw [VN] at HCk
      clear VN
      go_wp2_with fail
      refine wp_region_noPanic ?_
      refine wp_region_held_drew (S := fun wq => RS wq w b N (fun i => g i || i == k) O1 O2) (by kernel_rfl) ?_ (fun qe => ?_)
      ·(try dsimp only); exact HW.out.drew
      refine tq 0 ?_
      refine tq 1 ?_
      refine tq 2 ?_ (hy := by (intro wq qi; have c8 : wq.cell? ⟨w.heap.size, 8, none⟩ = some (.int .i64 M) := (qi.b1.cell 8).trans (by rw [HO1.out]; rfl); go_simp); (try rfl))
      refine tq 3 ?_
      refine tq 4 ?_
      refine tq 5 ?_
      refine tq 6 ?_
      refine tq 7 ?_
      refine tq 8 ?_
      refine tq 9 ?_ (hy := by (intro wq qi; have x1 := (ko.out.keeps qi.k GE).c1; go_simp); (try rfl))
      refine tq 10 ?_
      refine tq 11 ?_
      refine tq 12 ?_
      refine tq 13 ?_
      refine tq 14 ?_ (hy := by (intro wq qi; have z0 : wq.cell? ⟨w.heap.size + 1, 0, none⟩ = some (.int .u64 u0) := (qi.b2.cell 0).trans (by rw [K8.out]; rfl); have z1 : wq.cell? ⟨w.heap.size + 1, 1, none⟩ = some (.int .u64 u1) := (qi.b2.cell 1).trans (by rw [K8.out]; rfl); have z2 : wq.cell? ⟨w.heap.size + 1, 2, none⟩ = some (.int .u64 u2) := (qi.b2.cell 2).trans (by rw [K8.out]; rfl); have z3 : wq.cell? ⟨w.heap.size + 1, 3, none⟩ = some (.int .u64 u3) := (qi.b2.cell 3).trans (by rw [K8.out]; rfl); go_simp); (try rfl))
      refine tq 15 ?_
      refine tq 16 ?_
      refine tq 17 ?_
      refine tq 18 ?_ (hy := by (intro wq qi; have x1 := (ko.out.keeps qi.k GE).c1; go_simp); (try rfl))
      refine tq 19 ?_
      refine tq 20 ?_
      refine zU 21 fun K hK => ?_
      go_simp
      refine (HCk.out _).mono ?_
      rintro e w3 ⟨rfl, qQ⟩
      refine hK.out _ _ ?_ (fun qe => ?_)
      ·(try dsimp only); first | exact qe.below qQ | exact qe.below' qQ
      clear hK K
      try simp only [Act.put, zm]
      refine tq 22 ?_
      refine tq 23 ?_
      refine wpAnyH_done (by kernel_rfl) ?_ _
      refine NoPanic.normal ?_
      go_wp2
      go_roundw
      case rel => exact ⟨k + 1, c + 1, _, by simp, by simp, by omega, by omega, qe, HNX.out HGO.out⟩
      case measure => (simp [RowKit.intOf]) <;> omega
  ·have hEQ : (∀ i, kg s F' m M (s.length - k) k c i = (decide (m ≤ c) && decide (i = k))) → g = (fun i => f i || kg s F' m M (s.length - p) p 0 i) := fun Kp => by
    funext i
    rw [← hg i, Kp i]
    simp [hmc]
   have hNX : (∀ i, kg s F' m M (s.length - k) k c i = ((decide (m ≤ c) && decide (i = k)) || kg s F' m M (s.length - (k + 1)) (k + 1) (c + 1) i)) → ∀ i, (g i || kg s F' m M (s.length - (k + 1)) (k + 1) (c + 1) i) = (f i || kg s F' m M (s.length - p) p 0 i) := fun VT i => by
    rw [← hg i, VT i]
    simp [hmc]
   have HEQ := ξ hEQ
   have HNX := ξ hNX
   have HW := ξ hW
   have c7 : wr.cell? ⟨w.heap.size, 7, none⟩ = some (.int .i64 m) := (hW.b1.cell 7).trans (by rw [HO1.out]; rfl)
   have c8 : wr.cell? ⟨w.heap.size, 8, none⟩ = some (.int .i64 M) := (hW.b1.cell 8).trans (by rw [HO1.out]; rfl)
   have z0 : wr.cell? ⟨w.heap.size + 1, 0, none⟩ = some (.int .u64 u0) := (hW.b2.cell 0).trans (by rw [K8.out]; rfl)
   have z1 : wr.cell? ⟨w.heap.size + 1, 1, none⟩ = some (.int .u64 u1) := (hW.b2.cell 1).trans (by rw [K8.out]; rfl)
   have z2 : wr.cell? ⟨w.heap.size + 1, 2, none⟩ = some (.int .u64 u2) := (hW.b2.cell 2).trans (by rw [K8.out]; rfl)
   have z3 : wr.cell? ⟨w.heap.size + 1, 3, none⟩ = some (.int .u64 u3) := (hW.b2.cell 3).trans (by rw [K8.out]; rfl)
   have x1 := (ko.out.keeps hW.k GE).c1
   clear hEQ hNX hg hW
   by_cases hM : (c : Int) = M
   ·have hMb : ((c : Int) == M) = true := by simpa using hM
    have vk : ∀ i, kg s F' m M (s.length - k) k c i = (decide (m ≤ c) && decide (i = k)) := fun i => yG hks (.inl hM)
    have VP := ξ vk
    clear vk hM
    go_wp2_with fail
    go_region
    all_goals
     go_wp2
     first | go_end0 | refine bodyPost_ret (results_none rfl _ _ _) rfl ?_
     exact ⟨rfl, by rw [← HEQ.out VP.out]; exact HW.out.drew.row, HW.out.drew.k⟩
   ·have hMb : ((c : Int) == M) = false := by rw [beq_eq_false_iff_ne]; exact hM
    by_cases jl : k = s.length
    ·have hkb : ((k : Int) == (s.length : Int)) = true := by subst jl; simp
     have vk : ∀ i, kg s F' m M (s.length - k) k c i = (decide (m ≤ c) && decide (i = k)) := fun i => yG hks (.inr (.inl jl))
     have VP := ξ vk
     clear vk hM jl
     go_wp2_with fail
     go_region
     all_goals
      go_wp2
      first | go_end0 | refine bodyPost_ret (results_none rfl _ _ _) rfl ?_
      exact ⟨rfl, by rw [← HEQ.out VP.out]; exact HW.out.drew.row, HW.out.drew.k⟩
    ·have hkb : ((k : Int) == (s.length : Int)) = false := by rw [beq_eq_false_iff_ne]; omega
     have zb : k < s.length := by omega
     have hb : s[k]? = some s[k] := List.getElem?_eq_getElem zb
     have HCk := ξ (HC.out s[k])
     cases VN : F' s[k].toNat with
     | false =>
      have vk : ∀ i, kg s F' m M (s.length - k) k c i = (decide (m ≤ c) && decide (i = k)) := fun i => yG hks (.inr (.inr ⟨_, hb, VN⟩))
      have VP := ξ vk
      clear vk hM jl hb
      rw [VN] at HCk
      clear VN
      go_wp2_with fail
      refine wp_region_noPanic ?_
      refine wp_region_held_drew (S := fun wq => RS wq w b N (g) O1 O2) (by kernel_rfl) ?_ (fun qe => ?_)
      ·(try dsimp only); exact HW.out.drew
      refine tq 0 ?_
      refine tq 1 ?_
      refine tq 2 ?_ (hy := by (intro wq qi; have c8 : wq.cell? ⟨w.heap.size, 8, none⟩ = some (.int .i64 M) := (qi.b1.cell 8).trans (by rw [HO1.out]; rfl); go_simp); (try rfl))
      refine tq 3 ?_
      refine tq 4 ?_
      refine tq 5 ?_
      refine tq 6 ?_
      refine tq 7 ?_
      refine tq 8 ?_
      refine tq 9 ?_ (hy := by (intro wq qi; have x1 := (ko.out.keeps qi.k GE).c1; go_simp); (try rfl))
      refine tq 10 ?_
      refine tq 11 ?_
      refine tq 12 ?_
      refine tq 13 ?_
      refine tq 14 ?_ (hy := by (intro wq qi; have z0 : wq.cell? ⟨w.heap.size + 1, 0, none⟩ = some (.int .u64 u0) := (qi.b2.cell 0).trans (by rw [K8.out]; rfl); have z1 : wq.cell? ⟨w.heap.size + 1, 1, none⟩ = some (.int .u64 u1) := (qi.b2.cell 1).trans (by rw [K8.out]; rfl); have z2 : wq.cell? ⟨w.heap.size + 1, 2, none⟩ = some (.int .u64 u2) := (qi.b2.cell 2).trans (by rw [K8.out]; rfl); have z3 : wq.cell? ⟨w.heap.size + 1, 3, none⟩ = some (.int .u64 u3) := (qi.b2.cell 3).trans (by rw [K8.out]; rfl); go_simp); (try rfl))
      refine tq 15 ?_
      refine tq 16 ?_
      refine tq 17 ?_
      refine tq 18 ?_ (hy := by (intro wq qi; have x1 := (ko.out.keeps qi.k GE).c1; go_simp); (try rfl))
      refine tq 19 ?_
      refine tq 20 ?_
      refine zU 21 fun K hK => ?_
      go_simp
      refine (HCk.out _).mono ?_
      rintro e w3 ⟨rfl, qQ⟩
      refine hK.out _ _ ?_ (fun qe => ?_)
      ·(try dsimp only); first | exact qe.below qQ | exact qe.below' qQ
      clear hK K
      try simp only [Act.put, zm]
      refine tq 22 ?_
      refine tq 23 ?_
      refine wpAnyH_done (by kernel_rfl) ?_ _
      refine NoPanic.normal ?_
      go_wp2
      first | go_end0 | refine bodyPost_ret (results_none rfl _ _ _) rfl ?_
      exact ⟨rfl, by rw [← HEQ.out VP.out]; exact qe.row, qe.k⟩
     | true =>
      have VT : ∀ i, kg s F' m M (s.length - k) k c i = ((decide (m ≤ c) && decide (i = k)) || kg s F' m M (s.length - (k + 1)) (k + 1) (c + 1) i) := fun i => run_go zb hb VN hM
      have HGO := ξ VT
      clear VT hM jl hb
      rw [VN] at HCk
      clear VN
      go_wp2_with fail
      refine wp_region_noPanic ?_
      refine wp_region_held_drew (S := fun wq => RS wq w b N (g) O1 O2) (by kernel_rfl) ?_ (fun qe => ?_)
      ·(try dsimp only); exact HW.out.drew
      refine tq 0 ?_
      refine tq 1 ?_
      refine tq 2 ?_ (hy := by (intro wq qi; have c8 : wq.cell? ⟨w.heap.size, 8, none⟩ = some (.int .i64 M) := (qi.b1.cell 8).trans (by rw [HO1.out]; rfl); go_simp); (try rfl))
      refine tq 3 ?_
      refine tq 4 ?_
      refine tq 5 ?_
      refine tq 6 ?_
      refine tq 7 ?_
      refine tq 8 ?_
      refine tq 9 ?_ (hy := by (intro wq qi; have x1 := (ko.out.keeps qi.k GE).c1; go_simp); (try rfl))
      refine tq 10 ?_
      refine tq 11 ?_
      refine tq 12 ?_
      refine tq 13 ?_
      refine tq 14 ?_ (hy := by (intro wq qi; have z0 : wq.cell? ⟨w.heap.size + 1, 0, none⟩ = some (.int .u64 u0) := (qi.b2.cell 0).trans (by rw [K8.out]; rfl); have z1 : wq.cell? ⟨w.heap.size + 1, 1, none⟩ = some (.int .u64 u1) := (qi.b2.cell 1).trans (by rw [K8.out]; rfl); have z2 : wq.cell? ⟨w.heap.size + 1, 2, none⟩ = some (.int .u64 u2) := (qi.b2.cell 2).trans (by rw [K8.out]; rfl); have z3 : wq.cell? ⟨w.heap.size + 1, 3, none⟩ = some (.int .u64 u3) := (qi.b2.cell 3).trans (by rw [K8.out]; rfl); go_simp); (try rfl))
      refine tq 15 ?_
      refine tq 16 ?_
      refine tq 17 ?_
      refine tq 18 ?_ (hy := by (intro wq qi; have x1 := (ko.out.keeps qi.k GE).c1; go_simp); (try rfl))
      refine tq 19 ?_
      refine tq 20 ?_
      refine zU 21 fun K hK => ?_
      go_simp
      refine (HCk.out _).mono ?_
      rintro e w3 ⟨rfl, qQ⟩
      refine hK.out _ _ ?_ (fun qe => ?_)
      ·(try dsimp only); first | exact qe.below qQ | exact qe.below' qQ
      clear hK K
      try simp only [Act.put, zm]
      refine tq 22 ?_
      refine tq 23 ?_
      refine wpAnyH_done (by kernel_rfl) ?_ _
      refine NoPanic.normal ?_
      go_wp2
      go_roundw
      case rel => exact ⟨k + 1, c + 1, _, by simp, by simp, by omega, by omega, qe, HNX.out HGO.out⟩
      case measure => (simp [RowKit.intOf]) <;> omega
end Go.Proofs.YtjgegohidhdbpaaGreatDoor
