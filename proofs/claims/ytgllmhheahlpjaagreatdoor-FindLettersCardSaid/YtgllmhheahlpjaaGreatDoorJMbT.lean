/- A trial: run. -/
import Derived.Test.YtgllmhheahlpjaaGreatDoorJMbN
import Derived.Test.YtgllmhheahlpjaaGreatDoorJMbV
import Derived.Deep.RegionWith
set_option linter.unusedVariables false
set_option linter.unusedSimpArgs false
set_option maxRecDepth 100000
set_option maxHeartbeats 40000000
namespace Go.Proofs.YtgllmhheahlpjaaGreatDoor
open Go.RowKit
theorem run_stop {s : List UInt8} {F : Nat → Bool} {m M : Int} {k c j : Nat} (hk : k ≤ s.length) (hst : (c : Int) = M ∨ k = s.length ∨ ∃ b, s[k]? = some b ∧ F b.toNat = false) : runE s F m M (s.length - k) k c j = (decide (m ≤ c) && decide (j = k)) := by
 rcases Nat.lt_or_ge k s.length with h | h
 ·obtain ⟨f, hf⟩ : ∃ f, s.length - k = f + 1 := ⟨s.length - k - 1, by omega⟩
  rw [hf, runE]
  rcases hst with e | e | ⟨b, hb, e⟩
  ·simp [e]
  ·omega
  ·simp [hb, e]
 ·obtain rfl : k = s.length := by omega
  rw [Nat.sub_self, runE]
theorem run_go {s : List UInt8} {F : Nat → Bool} {m M : Int} {k c j : Nat} {b : UInt8} (hk : k < s.length) (hb : s[k]? = some b) (hF : F b.toNat = true) (hM : (c : Int) ≠ M) : runE s F m M (s.length - k) k c j = ((decide (m ≤ c) && decide (j = k)) || runE s F m M (s.length - (k + 1)) (k + 1) (c + 1) j) := by
 obtain ⟨f, hf⟩ : ∃ f, s.length - k = f + 1 := ⟨s.length - k - 1, by omega⟩
 rw [hf, runE, hb, show s.length - (k + 1) = f by omega]
 simp [hF, hM]
structure RS (W w : World) (b N : Nat) (g : Nat → Bool) (O1 O2 : Array Value) : Prop where
 row : PRow W b N g
 k : Keeps (fun i => i = b) w W
 b1 : Blk W w.heap.size O1 60
 b2 : Blk W (w.heap.size + 1) O2 57
theorem RS.below {W w W' : World} {b N : Nat} {g : Nat → Bool} {O1 O2 : Array Value} (h : RS W w b N g O1 O2) (hB : Below W.heap.size W W') : RS W' w b N g O1 O2 :=
 ⟨h.row.below hB h.row.lt, h.k.trans (Keeps.of_below hB), h.b1.below hB h.b1.lt, h.b2.below hB h.b2.lt⟩
theorem RS.below' {W w W' : World} {b N : Nat} {g : Nat → Bool} {O1 O2 : Array Value} (h : RS W w b N g O1 O2) (hB : Below W.drew.heap.size W.drew W') : RS W' w b N g O1 O2 := h.below ⟨hB.os, hB.tape, hB.output, hB.size, hB.block⟩
theorem RS.drew {W w : World} {b N : Nat} {g : Nat → Bool} {O1 O2 : Array Value} (h : RS W w b N g O1 O2) : RS W.drew w b N g O1 O2 := ⟨h.row.drew, h.k.drew, h.b1.drew, h.b2.drew⟩
theorem RS.put {W w : World} {b N : Nat} {g : Nat → Bool} {O1 O2 : Array Value} (h : RS W w b N g O1 O2) (hb : b < w.heap.size) (k : Nat) : RS ((W.setCell ⟨b, k / 64, none⟩ (.int .u64 (wd (fun i => g i || i == k) (k / 64)))).drew) w b N (fun i => g i || i == k) O1 O2 :=
 ⟨(h.row.put k).drew, (h.k.setCell (p := ⟨b, k / 64, none⟩) rfl _).drew, (h.b1.other (p := ⟨b, k / 64, none⟩) (by show w.heap.size ≠ b; omega) _).drew, (h.b2.other (p := ⟨b, k / 64, none⟩) (by show w.heap.size + 1 ≠ b; omega) _).drew⟩
theorem run_c (X p b N q : Nat) (v : TrV) (s : List UInt8) (xs : List Nd) (x y : Nd) (hxa : x.a = q) (hq : q < v.n) (hn : v.n ≤ 120) (hy : xs[q]? = some y) (hyf : y.Fits) (hm : 0 ≤ x.mn ∧ x.mn ≤ 255) (hp : p ≤ s.length) (hs : s.length ≤ 999999) (hN : N = s.length / 64 + 1) (f : Nat → Bool)
  (w : World) (h : TrAt w X v s) (hl : NodesAt w v.lb v.lo xs) (hf : PRow w b N f) (hXb : X ≠ b) (hlb : v.lb ≠ b) :
  Calls Tryz.prog 152 #[.pointer (some ⟨X, 0, none⟩), .slice (some ⟨b, 0, none⟩) N N, ndV x, .int .i64 p] w fun e w' => e = .returned (.tuple #[]) ∧ PRow w' b N (fun i => f i || runE s y.set x.mn x.mx (s.length - p) p 0 i) ∧ Keeps (fun i => i = b) w w' := by
 have q0 := h.c0
 have q1 := h.c1
 have d := hl.cell q y hy
 have lX := h.lt
 have lb := hl.lt
 have lf := hf.lt
 have HTR := Lib.hid h
 have HN := Lib.hid hN
 clear hN
 have hsets : y.set = ofWords y.w0 y.w1 y.w2 y.w3 := rfl
 obtain ⟨F, hF⟩ : ∃ F, F = y.set := ⟨_, rfl⟩
 rw [← hF]
 obtain ⟨lb', lo, n, lc, rb, bn, br, bl, lp⟩ := v
 simp only at *
 obtain ⟨ky, u0, u1, u2, u3, ya, yb, ym, yM, yn⟩ := y
 obtain ⟨kd, w0, w1, w2, w3, xa, xb, m, M, xn⟩ := x
 simp only at *
 subst hxa
 have d1 : w.cell? ⟨lb', lo + q * 10 + 1, none⟩ = some (.int .u64 u0) := d 1 _ rfl
 have d2 : w.cell? ⟨lb', lo + q * 10 + 2, none⟩ = some (.int .u64 u1) := d 2 _ rfl
 have d3 : w.cell? ⟨lb', lo + q * 10 + 3, none⟩ = some (.int .u64 u2) := d 3 _ rfl
 have d4 : w.cell? ⟨lb', lo + q * 10 + 4, none⟩ = some (.int .u64 u3) := d 4 _ rfl
 clear d
 obtain ⟨O1, hO1⟩ : ∃ O1 : Array Value, O1 = (nA kd w0 w1 w2 w3 q xb m M xn) := ⟨_, rfl⟩
 have q0' := cell_alloc1 (.cells (nA kd w0 w1 w2 w3 q xb m M xn) 60) q0
 have q0'' := cell_alloc1 (.cells #[.int .u64 0, .int .u64 0, .int .u64 0, .int .u64 0] 57) q0'
 have d1' := cell_alloc1 (.cells (nA kd w0 w1 w2 w3 q xb m M xn) 60) d1
 have d1'' := cell_alloc1 (.cells #[.int .u64 0, .int .u64 0, .int .u64 0, .int .u64 0] 57) d1'
 have d2' := cell_alloc1 (.cells (nA kd w0 w1 w2 w3 q xb m M xn) 60) d2
 have d2'' := cell_alloc1 (.cells #[.int .u64 0, .int .u64 0, .int .u64 0, .int .u64 0] 57) d2'
 have d3' := cell_alloc1 (.cells (nA kd w0 w1 w2 w3 q xb m M xn) 60) d3
 have d3'' := cell_alloc1 (.cells #[.int .u64 0, .int .u64 0, .int .u64 0, .int .u64 0] 57) d3'
 have d4' := cell_alloc1 (.cells (nA kd w0 w1 w2 w3 q xb m M xn) 60) d4
 have d4'' := cell_alloc1 (.cells #[.int .u64 0, .int .u64 0, .int .u64 0, .int .u64 0] 57) d4'
 obtain ⟨O2, hO2⟩ : ∃ O2 : Array Value, O2 = #[.int .u64 u0, .int .u64 u1, .int .u64 u2, .int .u64 u3] := ⟨_, rfl⟩
 have hRS0 : RS (((w.alloc (.cells O1 60)).alloc (.cells O2 57)).drew) w b N f O1 O2 :=
  ⟨((hf.alloc _).alloc _).drew, (((Keeps.refl _ w).alloc _).alloc _).drew, ((Blk.new w O1 _).alloc _).drew, (by
   have := Blk.new (w.alloc (.cells O1 60)) O2 57
   rw [World.size_alloc] at this
   exact this.drew)⟩
 have HR0 := Lib.hid hRS0
 rw [hF, hsets] at *
 obtain ⟨a0, a1, a2, a3⟩ := ofWords_wd hyf.s0 hyf.s1 hyf.s2 hyf.s3
 have hc := fun (z : UInt8) w => has_c (ofWords u0 u1 u2 u3) z.toNat (by have := z.toNat_lt; omega) w
 unfold sv at hc
 rw [a0, a1, a2, a3] at hc
 obtain ⟨F', hF'⟩ : ∃ F', F' = ofWords u0 u1 u2 u3 := ⟨_, rfl⟩
 rw [← hF'] at hc ⊢
 have HC := Lib.hid hc
 have HO1 := Lib.hid hO1
 have HO2 := Lib.hid hO2
 clear hc a0 a1 a2 a3 hF' hRS0
 unfold ndV
 simp only
 go_enter Tryz.func152, Tryz.ntmps152
 go_wp2_with fail
 go_region
 clear q0' q0'' d1' d1'' d2' d2'' d3' d3'' d4' d4'' d1 d2 d3 d4
 go_wp2
 go_loopw [3, 9] (fun pv cv wr => ∃ (k c : Nat) (g : Nat → Bool), pv = .int .i64 k ∧ cv = .int .i64 c ∧ k ≤ s.length ∧ c ≤ k ∧ RS wr w b N g O1 O2 ∧ ∀ i, (g i || runE s F' m M (s.length - k) k c i) = (f i || runE s F' m M (s.length - p) p 0 i)) (fun pv _ _ => s.length - (RowKit.intOf pv).toNat)
 case atStart =>
  have h0 := HR0.out
  rw [HO1.out, HO2.out] at h0
  rw [HO1.out, HO2.out]
  exact ⟨p, 0, f, rfl, rfl, hp, by omega, h0, fun i => rfl⟩
 case round =>
  obtain ⟨k, c, g, rfl, rfl, hks, hck, hW, hg⟩ := hrel
  by_cases hmc : m ≤ (c : Int)
  ·have hput := put_m b N N k g (by have := HN.out; omega) (by omega) wr hW.row
   have hW2 := hW.put lf k
   have hEQ : (∀ i, runE s F' m M (s.length - k) k c i = (decide (m ≤ c) && decide (i = k))) → (fun i => g i || i == k) = (fun i => f i || runE s F' m M (s.length - p) p 0 i) := fun hst => by
    funext i
    rw [← hg i, hst i]
    have eb : (i == k) = decide (i = k) := rfl
    simp [hmc, eb]
   have hNX : (∀ i, runE s F' m M (s.length - k) k c i = ((decide (m ≤ c) && decide (i = k)) || runE s F' m M (s.length - (k + 1)) (k + 1) (c + 1) i)) → ∀ i, ((g i || i == k) || runE s F' m M (s.length - (k + 1)) (k + 1) (c + 1) i) = (f i || runE s F' m M (s.length - p) p 0 i) := fun hgo i => by
    rw [← hg i, hgo i]
    have eb : (i == k) = decide (i = k) := rfl
    simp [hmc, Bool.or_assoc, eb]
   have HPUT := Lib.hid hput
   have HEQ := Lib.hid hEQ
   have HNX := Lib.hid hNX
   have c7 : wr.cell? ⟨w.heap.size, 7, none⟩ = some (.int .i64 m) := (hW.b1.cell 7).trans (by rw [HO1.out]; rfl)
   obtain ⟨W2, hW2d⟩ : ∃ W2, W2 = ((wr.setCell ⟨b, k / 64, none⟩ (.int .u64 (wd (fun i => g i || i == k) (k / 64)))).drew) := ⟨_, rfl⟩
   rw [← hW2d] at hW2 HPUT
   have HW := Lib.hid hW2
   clear hput hEQ hNX hg hW
   go_wp2_with fail
   refine HPUT.out.mono ?_
   rintro e w2 ⟨rfl, rfl⟩
   clear HPUT c7 hW2d
   have c8 : w2.cell? ⟨w.heap.size, 8, none⟩ = some (.int .i64 M) := (hW2.b1.cell 8).trans (by rw [HO1.out]; rfl)
   have z0 : w2.cell? ⟨w.heap.size + 1, 0, none⟩ = some (.int .u64 u0) := (hW2.b2.cell 0).trans (by rw [HO2.out]; rfl)
   have z1 : w2.cell? ⟨w.heap.size + 1, 1, none⟩ = some (.int .u64 u1) := (hW2.b2.cell 1).trans (by rw [HO2.out]; rfl)
   have z2 : w2.cell? ⟨w.heap.size + 1, 2, none⟩ = some (.int .u64 u2) := (hW2.b2.cell 2).trans (by rw [HO2.out]; rfl)
   have z3 : w2.cell? ⟨w.heap.size + 1, 3, none⟩ = some (.int .u64 u3) := (hW2.b2.cell 3).trans (by rw [HO2.out]; rfl)
   have x1 := (HTR.out.keeps hW2.k hXb).c1
   clear hW2
   by_cases hM : (c : Int) = M
   ·have hMb : ((c : Int) == M) = true := by simpa using hM
    have hstop : ∀ i, runE s F' m M (s.length - k) k c i = (decide (m ≤ c) && decide (i = k)) := fun i => run_stop hks (.inl hM)
    have HST := Lib.hid hstop
    clear hstop hM
    go_wp2_with fail
    go_region
    all_goals
     go_wp2
     first | go_end0 | refine bodyPost_ret (results_none rfl _ _ _) rfl ?_
     exact ⟨rfl, by rw [← HEQ.out HST.out]; exact HW.out.drew.row, HW.out.drew.k⟩
   ·have hMb : ((c : Int) == M) = false := by rw [beq_eq_false_iff_ne]; exact hM
    by_cases hkl : k = s.length
    ·have hkb : ((k : Int) == (s.length : Int)) = true := by subst hkl; simp
     have hstop : ∀ i, runE s F' m M (s.length - k) k c i = (decide (m ≤ c) && decide (i = k)) := fun i => run_stop hks (.inr (.inl hkl))
     have HST := Lib.hid hstop
     clear hstop hM hkl
     go_wp2_with fail
     go_region
     all_goals
      go_wp2
      first | go_end0 | refine bodyPost_ret (results_none rfl _ _ _) rfl ?_
      exact ⟨rfl, by rw [← HEQ.out HST.out]; exact HW.out.drew.row, HW.out.drew.k⟩
    ·have hkb : ((k : Int) == (s.length : Int)) = false := by rw [beq_eq_false_iff_ne]; omega
     have hlt : k < s.length := by omega
     have hb : s[k]? = some s[k] := List.getElem?_eq_getElem hlt
     have HCk := Lib.hid (HC.out s[k])
     cases hFk : F' s[k].toNat with
     | false =>
      have hstop : ∀ i, runE s F' m M (s.length - k) k c i = (decide (m ≤ c) && decide (i = k)) := fun i => run_stop hks (.inr (.inr ⟨_, hb, hFk⟩))
      have HST := Lib.hid hstop
      clear hstop hM hkl hb
      rw [hFk] at HCk
      clear hFk
      go_wp2_with fail
      refine wp_region_noPanic ?_
      refine wp_region_held_drew (S := fun wq => RS wq w b N (fun i => g i || i == k) O1 O2) (by kernel_rfl) ?_ (fun hHeld => ?_)
      ·(try dsimp only); exact HW.out.drew
      refine tk (i := 0) (v := ?_) rfl ?_ ?_; rotate_left
      ·(intro wq hSw; (try dsimp only at hSw); go_simp); (try with_reducible rfl)
      try simp only [Act.put, tkS]
      refine tk (i := 1) (v := ?_) rfl ?_ ?_; rotate_left
      ·(intro wq hSw; (try dsimp only at hSw); go_simp); (try with_reducible rfl)
      try simp only [Act.put, tkS]
      refine tk (i := 2) (v := ?_) rfl ?_ ?_; rotate_left
      ·(intro wq hSw; (try dsimp only at hSw); have c8 : wq.cell? ⟨w.heap.size, 8, none⟩ = some (.int .i64 M) := (hSw.b1.cell 8).trans (by rw [HO1.out]; rfl); go_simp); (try with_reducible rfl)
      try simp only [Act.put, tkS]
      refine tk (i := 3) (v := ?_) rfl ?_ ?_; rotate_left
      ·(intro wq hSw; (try dsimp only at hSw); go_simp); (try with_reducible rfl)
      try simp only [Act.put, tkS]
      refine tk (i := 4) (v := ?_) rfl ?_ ?_; rotate_left
      ·(intro wq hSw; (try dsimp only at hSw); go_simp); (try with_reducible rfl)
      try simp only [Act.put, tkS]
      refine tk (i := 5) (v := ?_) rfl ?_ ?_; rotate_left
      ·(intro wq hSw; (try dsimp only at hSw); go_simp); (try with_reducible rfl)
      try simp only [Act.put, tkS]
      refine tk (i := 6) (v := ?_) rfl ?_ ?_; rotate_left
      ·(intro wq hSw; (try dsimp only at hSw); go_simp); (try with_reducible rfl)
      try simp only [Act.put, tkS]
      refine tk (i := 7) (v := ?_) rfl ?_ ?_; rotate_left
      ·(intro wq hSw; (try dsimp only at hSw); go_simp); (try with_reducible rfl)
      try simp only [Act.put, tkS]
      refine tk (i := 8) (v := ?_) rfl ?_ ?_; rotate_left
      ·(intro wq hSw; (try dsimp only at hSw); go_simp); (try with_reducible rfl)
      try simp only [Act.put, tkS]
      refine tk (i := 9) (v := ?_) rfl ?_ ?_; rotate_left
      ·(intro wq hSw; (try dsimp only at hSw); have x1 := (HTR.out.keeps hSw.k hXb).c1; go_simp); (try with_reducible rfl)
      try simp only [Act.put, tkS]
      refine tk (i := 10) (v := ?_) rfl ?_ ?_; rotate_left
      ·(intro wq hSw; (try dsimp only at hSw); go_simp); (try with_reducible rfl)
      try simp only [Act.put, tkS]
      refine tk (i := 11) (v := ?_) rfl ?_ ?_; rotate_left
      ·(intro wq hSw; (try dsimp only at hSw); go_simp); (try with_reducible rfl)
      try simp only [Act.put, tkS]
      refine tk (i := 12) (v := ?_) rfl ?_ ?_; rotate_left
      ·(intro wq hSw; (try dsimp only at hSw); go_simp); (try with_reducible rfl)
      try simp only [Act.put, tkS]
      refine tk (i := 13) (v := ?_) rfl ?_ ?_; rotate_left
      ·(intro wq hSw; (try dsimp only at hSw); go_simp); (try with_reducible rfl)
      try simp only [Act.put, tkS]
      refine tk (i := 14) (v := ?_) rfl ?_ ?_; rotate_left
      ·(intro wq hSw; (try dsimp only at hSw); have z0 : wq.cell? ⟨w.heap.size + 1, 0, none⟩ = some (.int .u64 u0) := (hSw.b2.cell 0).trans (by rw [HO2.out]; rfl); have z1 : wq.cell? ⟨w.heap.size + 1, 1, none⟩ = some (.int .u64 u1) := (hSw.b2.cell 1).trans (by rw [HO2.out]; rfl); have z2 : wq.cell? ⟨w.heap.size + 1, 2, none⟩ = some (.int .u64 u2) := (hSw.b2.cell 2).trans (by rw [HO2.out]; rfl); have z3 : wq.cell? ⟨w.heap.size + 1, 3, none⟩ = some (.int .u64 u3) := (hSw.b2.cell 3).trans (by rw [HO2.out]; rfl); go_simp); (try with_reducible rfl)
      try simp only [Act.put, tkS]
      refine tk (i := 15) (v := ?_) rfl ?_ ?_; rotate_left
      ·(intro wq hSw; (try dsimp only at hSw); go_simp); (try with_reducible rfl)
      try simp only [Act.put, tkS]
      refine tk (i := 16) (v := ?_) rfl ?_ ?_; rotate_left
      ·(intro wq hSw; (try dsimp only at hSw); go_simp); (try with_reducible rfl)
      try simp only [Act.put, tkS]
      refine tk (i := 17) (v := ?_) rfl ?_ ?_; rotate_left
      ·(intro wq hSw; (try dsimp only at hSw); go_simp); (try with_reducible rfl)
      try simp only [Act.put, tkS]
      refine tk (i := 18) (v := ?_) rfl ?_ ?_; rotate_left
      ·(intro wq hSw; (try dsimp only at hSw); have x1 := (HTR.out.keeps hSw.k hXb).c1; go_simp); (try with_reducible rfl)
      try simp only [Act.put, tkS]
      refine tk (i := 19) (v := ?_) rfl ?_ ?_; rotate_left
      ·(intro wq hSw; (try dsimp only at hSw); go_simp); (try with_reducible rfl)
      try simp only [Act.put, tkS]
      refine tk (i := 20) (v := ?_) rfl ?_ ?_; rotate_left
      ·(intro wq hSw; (try dsimp only at hSw); go_simp); (try with_reducible rfl)
      try simp only [Act.put, tkS]
      refine wpAnyH_ready (rs := [21]) (by kernel_rfl) (by simp) ?_
      refine AllReadyH.cons rfl (fun K hK => ?_) ?_
      rotate_left
      ·exact AllReadyH.nil
      go_simp
      refine (HCk.out _).mono ?_
      rintro e w3 ⟨rfl, hB3⟩
      refine hK.out _ _ ?_ (fun hHeld => ?_)
      ·(try dsimp only); first | exact hHeld.below hB3 | exact hHeld.below' hB3
      clear hK K
      try simp only [Act.put, tkS]
      refine tk (i := 22) (v := ?_) rfl ?_ ?_; rotate_left
      ·(intro wq hSw; (try dsimp only at hSw); go_simp); (try with_reducible rfl)
      try simp only [Act.put, tkS]
      refine tk (i := 23) (v := ?_) rfl ?_ ?_; rotate_left
      ·(intro wq hSw; (try dsimp only at hSw); go_simp); (try with_reducible rfl)
      try simp only [Act.put, tkS]
      refine wpAnyH_done (by kernel_rfl) ?_ _
      refine NoPanic.normal ?_
      go_wp2
      first | go_end0 | refine bodyPost_ret (results_none rfl _ _ _) rfl ?_
      exact ⟨rfl, by rw [← HEQ.out HST.out]; exact hHeld.row, hHeld.k⟩
     | true =>
      have hgo : ∀ i, runE s F' m M (s.length - k) k c i = ((decide (m ≤ c) && decide (i = k)) || runE s F' m M (s.length - (k + 1)) (k + 1) (c + 1) i) := fun i => run_go hlt hb hFk hM
      have HGO := Lib.hid hgo
      clear hgo hM hkl hb
      rw [hFk] at HCk
      clear hFk
      go_wp2_with fail
      refine wp_region_noPanic ?_
      refine wp_region_held_drew (S := fun wq => RS wq w b N (fun i => g i || i == k) O1 O2) (by kernel_rfl) ?_ (fun hHeld => ?_)
      ·(try dsimp only); exact HW.out.drew
      refine tk (i := 0) (v := ?_) rfl ?_ ?_; rotate_left
      ·(intro wq hSw; (try dsimp only at hSw); go_simp); (try with_reducible rfl)
      try simp only [Act.put, tkS]
      refine tk (i := 1) (v := ?_) rfl ?_ ?_; rotate_left
      ·(intro wq hSw; (try dsimp only at hSw); go_simp); (try with_reducible rfl)
      try simp only [Act.put, tkS]
      refine tk (i := 2) (v := ?_) rfl ?_ ?_; rotate_left
      ·(intro wq hSw; (try dsimp only at hSw); have c8 : wq.cell? ⟨w.heap.size, 8, none⟩ = some (.int .i64 M) := (hSw.b1.cell 8).trans (by rw [HO1.out]; rfl); go_simp); (try with_reducible rfl)
      try simp only [Act.put, tkS]
      refine tk (i := 3) (v := ?_) rfl ?_ ?_; rotate_left
      ·(intro wq hSw; (try dsimp only at hSw); go_simp); (try with_reducible rfl)
      try simp only [Act.put, tkS]
      refine tk (i := 4) (v := ?_) rfl ?_ ?_; rotate_left
      ·(intro wq hSw; (try dsimp only at hSw); go_simp); (try with_reducible rfl)
      try simp only [Act.put, tkS]
      refine tk (i := 5) (v := ?_) rfl ?_ ?_; rotate_left
      ·(intro wq hSw; (try dsimp only at hSw); go_simp); (try with_reducible rfl)
      try simp only [Act.put, tkS]
      refine tk (i := 6) (v := ?_) rfl ?_ ?_; rotate_left
      ·(intro wq hSw; (try dsimp only at hSw); go_simp); (try with_reducible rfl)
      try simp only [Act.put, tkS]
      refine tk (i := 7) (v := ?_) rfl ?_ ?_; rotate_left
      ·(intro wq hSw; (try dsimp only at hSw); go_simp); (try with_reducible rfl)
      try simp only [Act.put, tkS]
      refine tk (i := 8) (v := ?_) rfl ?_ ?_; rotate_left
      ·(intro wq hSw; (try dsimp only at hSw); go_simp); (try with_reducible rfl)
      try simp only [Act.put, tkS]
      refine tk (i := 9) (v := ?_) rfl ?_ ?_; rotate_left
      ·(intro wq hSw; (try dsimp only at hSw); have x1 := (HTR.out.keeps hSw.k hXb).c1; go_simp); (try with_reducible rfl)
      try simp only [Act.put, tkS]
      refine tk (i := 10) (v := ?_) rfl ?_ ?_; rotate_left
      ·(intro wq hSw; (try dsimp only at hSw); go_simp); (try with_reducible rfl)
      try simp only [Act.put, tkS]
      refine tk (i := 11) (v := ?_) rfl ?_ ?_; rotate_left
      ·(intro wq hSw; (try dsimp only at hSw); go_simp); (try with_reducible rfl)
      try simp only [Act.put, tkS]
      refine tk (i := 12) (v := ?_) rfl ?_ ?_; rotate_left
      ·(intro wq hSw; (try dsimp only at hSw); go_simp); (try with_reducible rfl)
      try simp only [Act.put, tkS]
      refine tk (i := 13) (v := ?_) rfl ?_ ?_; rotate_left
      ·(intro wq hSw; (try dsimp only at hSw); go_simp); (try with_reducible rfl)
      try simp only [Act.put, tkS]
      refine tk (i := 14) (v := ?_) rfl ?_ ?_; rotate_left
      ·(intro wq hSw; (try dsimp only at hSw); have z0 : wq.cell? ⟨w.heap.size + 1, 0, none⟩ = some (.int .u64 u0) := (hSw.b2.cell 0).trans (by rw [HO2.out]; rfl); have z1 : wq.cell? ⟨w.heap.size + 1, 1, none⟩ = some (.int .u64 u1) := (hSw.b2.cell 1).trans (by rw [HO2.out]; rfl); have z2 : wq.cell? ⟨w.heap.size + 1, 2, none⟩ = some (.int .u64 u2) := (hSw.b2.cell 2).trans (by rw [HO2.out]; rfl); have z3 : wq.cell? ⟨w.heap.size + 1, 3, none⟩ = some (.int .u64 u3) := (hSw.b2.cell 3).trans (by rw [HO2.out]; rfl); go_simp); (try with_reducible rfl)
      try simp only [Act.put, tkS]
      refine tk (i := 15) (v := ?_) rfl ?_ ?_; rotate_left
      ·(intro wq hSw; (try dsimp only at hSw); go_simp); (try with_reducible rfl)
      try simp only [Act.put, tkS]
      refine tk (i := 16) (v := ?_) rfl ?_ ?_; rotate_left
      ·(intro wq hSw; (try dsimp only at hSw); go_simp); (try with_reducible rfl)
      try simp only [Act.put, tkS]
      refine tk (i := 17) (v := ?_) rfl ?_ ?_; rotate_left
      ·(intro wq hSw; (try dsimp only at hSw); go_simp); (try with_reducible rfl)
      try simp only [Act.put, tkS]
      refine tk (i := 18) (v := ?_) rfl ?_ ?_; rotate_left
      ·(intro wq hSw; (try dsimp only at hSw); have x1 := (HTR.out.keeps hSw.k hXb).c1; go_simp); (try with_reducible rfl)
      try simp only [Act.put, tkS]
      refine tk (i := 19) (v := ?_) rfl ?_ ?_; rotate_left
      ·(intro wq hSw; (try dsimp only at hSw); go_simp); (try with_reducible rfl)
      try simp only [Act.put, tkS]
      refine tk (i := 20) (v := ?_) rfl ?_ ?_; rotate_left
      ·(intro wq hSw; (try dsimp only at hSw); go_simp); (try with_reducible rfl)
      try simp only [Act.put, tkS]
      refine wpAnyH_ready (rs := [21]) (by kernel_rfl) (by simp) ?_
      refine AllReadyH.cons rfl (fun K hK => ?_) ?_
      rotate_left
      ·exact AllReadyH.nil
      go_simp
      refine (HCk.out _).mono ?_
      rintro e w3 ⟨rfl, hB3⟩
      refine hK.out _ _ ?_ (fun hHeld => ?_)
      ·(try dsimp only); first | exact hHeld.below hB3 | exact hHeld.below' hB3
      clear hK K
      try simp only [Act.put, tkS]
      refine tk (i := 22) (v := ?_) rfl ?_ ?_; rotate_left
      ·(intro wq hSw; (try dsimp only at hSw); go_simp); (try with_reducible rfl)
      try simp only [Act.put, tkS]
      refine tk (i := 23) (v := ?_) rfl ?_ ?_; rotate_left
      ·(intro wq hSw; (try dsimp only at hSw); go_simp); (try with_reducible rfl)
      try simp only [Act.put, tkS]
      refine wpAnyH_done (by kernel_rfl) ?_ _
      refine NoPanic.normal ?_
      go_wp2
      go_roundw
      case rel => exact ⟨k + 1, c + 1, _, by simp, by simp, by omega, by omega, hHeld, HNX.out HGO.out⟩
      case measure => (simp [RowKit.intOf]) <;> omega
  ·have hEQ : (∀ i, runE s F' m M (s.length - k) k c i = (decide (m ≤ c) && decide (i = k))) → g = (fun i => f i || runE s F' m M (s.length - p) p 0 i) := fun hst => by
    funext i
    rw [← hg i, hst i]
    simp [hmc]
   have hNX : (∀ i, runE s F' m M (s.length - k) k c i = ((decide (m ≤ c) && decide (i = k)) || runE s F' m M (s.length - (k + 1)) (k + 1) (c + 1) i)) → ∀ i, (g i || runE s F' m M (s.length - (k + 1)) (k + 1) (c + 1) i) = (f i || runE s F' m M (s.length - p) p 0 i) := fun hgo i => by
    rw [← hg i, hgo i]
    simp [hmc]
   have HEQ := Lib.hid hEQ
   have HNX := Lib.hid hNX
   have HW := Lib.hid hW
   have c7 : wr.cell? ⟨w.heap.size, 7, none⟩ = some (.int .i64 m) := (hW.b1.cell 7).trans (by rw [HO1.out]; rfl)
   have c8 : wr.cell? ⟨w.heap.size, 8, none⟩ = some (.int .i64 M) := (hW.b1.cell 8).trans (by rw [HO1.out]; rfl)
   have z0 : wr.cell? ⟨w.heap.size + 1, 0, none⟩ = some (.int .u64 u0) := (hW.b2.cell 0).trans (by rw [HO2.out]; rfl)
   have z1 : wr.cell? ⟨w.heap.size + 1, 1, none⟩ = some (.int .u64 u1) := (hW.b2.cell 1).trans (by rw [HO2.out]; rfl)
   have z2 : wr.cell? ⟨w.heap.size + 1, 2, none⟩ = some (.int .u64 u2) := (hW.b2.cell 2).trans (by rw [HO2.out]; rfl)
   have z3 : wr.cell? ⟨w.heap.size + 1, 3, none⟩ = some (.int .u64 u3) := (hW.b2.cell 3).trans (by rw [HO2.out]; rfl)
   have x1 := (HTR.out.keeps hW.k hXb).c1
   clear hEQ hNX hg hW
   by_cases hM : (c : Int) = M
   ·have hMb : ((c : Int) == M) = true := by simpa using hM
    have hstop : ∀ i, runE s F' m M (s.length - k) k c i = (decide (m ≤ c) && decide (i = k)) := fun i => run_stop hks (.inl hM)
    have HST := Lib.hid hstop
    clear hstop hM
    go_wp2_with fail
    go_region
    all_goals
     go_wp2
     first | go_end0 | refine bodyPost_ret (results_none rfl _ _ _) rfl ?_
     exact ⟨rfl, by rw [← HEQ.out HST.out]; exact HW.out.drew.row, HW.out.drew.k⟩
   ·have hMb : ((c : Int) == M) = false := by rw [beq_eq_false_iff_ne]; exact hM
    by_cases hkl : k = s.length
    ·have hkb : ((k : Int) == (s.length : Int)) = true := by subst hkl; simp
     have hstop : ∀ i, runE s F' m M (s.length - k) k c i = (decide (m ≤ c) && decide (i = k)) := fun i => run_stop hks (.inr (.inl hkl))
     have HST := Lib.hid hstop
     clear hstop hM hkl
     go_wp2_with fail
     go_region
     all_goals
      go_wp2
      first | go_end0 | refine bodyPost_ret (results_none rfl _ _ _) rfl ?_
      exact ⟨rfl, by rw [← HEQ.out HST.out]; exact HW.out.drew.row, HW.out.drew.k⟩
    ·have hkb : ((k : Int) == (s.length : Int)) = false := by rw [beq_eq_false_iff_ne]; omega
     have hlt : k < s.length := by omega
     have hb : s[k]? = some s[k] := List.getElem?_eq_getElem hlt
     have HCk := Lib.hid (HC.out s[k])
     cases hFk : F' s[k].toNat with
     | false =>
      have hstop : ∀ i, runE s F' m M (s.length - k) k c i = (decide (m ≤ c) && decide (i = k)) := fun i => run_stop hks (.inr (.inr ⟨_, hb, hFk⟩))
      have HST := Lib.hid hstop
      clear hstop hM hkl hb
      rw [hFk] at HCk
      clear hFk
      go_wp2_with fail
      refine wp_region_noPanic ?_
      refine wp_region_held_drew (S := fun wq => RS wq w b N (g) O1 O2) (by kernel_rfl) ?_ (fun hHeld => ?_)
      ·(try dsimp only); exact HW.out.drew
      refine tk (i := 0) (v := ?_) rfl ?_ ?_; rotate_left
      ·(intro wq hSw; (try dsimp only at hSw); go_simp); (try with_reducible rfl)
      try simp only [Act.put, tkS]
      refine tk (i := 1) (v := ?_) rfl ?_ ?_; rotate_left
      ·(intro wq hSw; (try dsimp only at hSw); go_simp); (try with_reducible rfl)
      try simp only [Act.put, tkS]
      refine tk (i := 2) (v := ?_) rfl ?_ ?_; rotate_left
      ·(intro wq hSw; (try dsimp only at hSw); have c8 : wq.cell? ⟨w.heap.size, 8, none⟩ = some (.int .i64 M) := (hSw.b1.cell 8).trans (by rw [HO1.out]; rfl); go_simp); (try with_reducible rfl)
      try simp only [Act.put, tkS]
      refine tk (i := 3) (v := ?_) rfl ?_ ?_; rotate_left
      ·(intro wq hSw; (try dsimp only at hSw); go_simp); (try with_reducible rfl)
      try simp only [Act.put, tkS]
      refine tk (i := 4) (v := ?_) rfl ?_ ?_; rotate_left
      ·(intro wq hSw; (try dsimp only at hSw); go_simp); (try with_reducible rfl)
      try simp only [Act.put, tkS]
      refine tk (i := 5) (v := ?_) rfl ?_ ?_; rotate_left
      ·(intro wq hSw; (try dsimp only at hSw); go_simp); (try with_reducible rfl)
      try simp only [Act.put, tkS]
      refine tk (i := 6) (v := ?_) rfl ?_ ?_; rotate_left
      ·(intro wq hSw; (try dsimp only at hSw); go_simp); (try with_reducible rfl)
      try simp only [Act.put, tkS]
      refine tk (i := 7) (v := ?_) rfl ?_ ?_; rotate_left
      ·(intro wq hSw; (try dsimp only at hSw); go_simp); (try with_reducible rfl)
      try simp only [Act.put, tkS]
      refine tk (i := 8) (v := ?_) rfl ?_ ?_; rotate_left
      ·(intro wq hSw; (try dsimp only at hSw); go_simp); (try with_reducible rfl)
      try simp only [Act.put, tkS]
      refine tk (i := 9) (v := ?_) rfl ?_ ?_; rotate_left
      ·(intro wq hSw; (try dsimp only at hSw); have x1 := (HTR.out.keeps hSw.k hXb).c1; go_simp); (try with_reducible rfl)
      try simp only [Act.put, tkS]
      refine tk (i := 10) (v := ?_) rfl ?_ ?_; rotate_left
      ·(intro wq hSw; (try dsimp only at hSw); go_simp); (try with_reducible rfl)
      try simp only [Act.put, tkS]
      refine tk (i := 11) (v := ?_) rfl ?_ ?_; rotate_left
      ·(intro wq hSw; (try dsimp only at hSw); go_simp); (try with_reducible rfl)
      try simp only [Act.put, tkS]
      refine tk (i := 12) (v := ?_) rfl ?_ ?_; rotate_left
      ·(intro wq hSw; (try dsimp only at hSw); go_simp); (try with_reducible rfl)
      try simp only [Act.put, tkS]
      refine tk (i := 13) (v := ?_) rfl ?_ ?_; rotate_left
      ·(intro wq hSw; (try dsimp only at hSw); go_simp); (try with_reducible rfl)
      try simp only [Act.put, tkS]
      refine tk (i := 14) (v := ?_) rfl ?_ ?_; rotate_left
      ·(intro wq hSw; (try dsimp only at hSw); have z0 : wq.cell? ⟨w.heap.size + 1, 0, none⟩ = some (.int .u64 u0) := (hSw.b2.cell 0).trans (by rw [HO2.out]; rfl); have z1 : wq.cell? ⟨w.heap.size + 1, 1, none⟩ = some (.int .u64 u1) := (hSw.b2.cell 1).trans (by rw [HO2.out]; rfl); have z2 : wq.cell? ⟨w.heap.size + 1, 2, none⟩ = some (.int .u64 u2) := (hSw.b2.cell 2).trans (by rw [HO2.out]; rfl); have z3 : wq.cell? ⟨w.heap.size + 1, 3, none⟩ = some (.int .u64 u3) := (hSw.b2.cell 3).trans (by rw [HO2.out]; rfl); go_simp); (try with_reducible rfl)
      try simp only [Act.put, tkS]
      refine tk (i := 15) (v := ?_) rfl ?_ ?_; rotate_left
      ·(intro wq hSw; (try dsimp only at hSw); go_simp); (try with_reducible rfl)
      try simp only [Act.put, tkS]
      refine tk (i := 16) (v := ?_) rfl ?_ ?_; rotate_left
      ·(intro wq hSw; (try dsimp only at hSw); go_simp); (try with_reducible rfl)
      try simp only [Act.put, tkS]
      refine tk (i := 17) (v := ?_) rfl ?_ ?_; rotate_left
      ·(intro wq hSw; (try dsimp only at hSw); go_simp); (try with_reducible rfl)
      try simp only [Act.put, tkS]
      refine tk (i := 18) (v := ?_) rfl ?_ ?_; rotate_left
      ·(intro wq hSw; (try dsimp only at hSw); have x1 := (HTR.out.keeps hSw.k hXb).c1; go_simp); (try with_reducible rfl)
      try simp only [Act.put, tkS]
      refine tk (i := 19) (v := ?_) rfl ?_ ?_; rotate_left
      ·(intro wq hSw; (try dsimp only at hSw); go_simp); (try with_reducible rfl)
      try simp only [Act.put, tkS]
      refine tk (i := 20) (v := ?_) rfl ?_ ?_; rotate_left
      ·(intro wq hSw; (try dsimp only at hSw); go_simp); (try with_reducible rfl)
      try simp only [Act.put, tkS]
      refine wpAnyH_ready (rs := [21]) (by kernel_rfl) (by simp) ?_
      refine AllReadyH.cons rfl (fun K hK => ?_) ?_
      rotate_left
      ·exact AllReadyH.nil
      go_simp
      refine (HCk.out _).mono ?_
      rintro e w3 ⟨rfl, hB3⟩
      refine hK.out _ _ ?_ (fun hHeld => ?_)
      ·(try dsimp only); first | exact hHeld.below hB3 | exact hHeld.below' hB3
      clear hK K
      try simp only [Act.put, tkS]
      refine tk (i := 22) (v := ?_) rfl ?_ ?_; rotate_left
      ·(intro wq hSw; (try dsimp only at hSw); go_simp); (try with_reducible rfl)
      try simp only [Act.put, tkS]
      refine tk (i := 23) (v := ?_) rfl ?_ ?_; rotate_left
      ·(intro wq hSw; (try dsimp only at hSw); go_simp); (try with_reducible rfl)
      try simp only [Act.put, tkS]
      refine wpAnyH_done (by kernel_rfl) ?_ _
      refine NoPanic.normal ?_
      go_wp2
      first | go_end0 | refine bodyPost_ret (results_none rfl _ _ _) rfl ?_
      exact ⟨rfl, by rw [← HEQ.out HST.out]; exact hHeld.row, hHeld.k⟩
     | true =>
      have hgo : ∀ i, runE s F' m M (s.length - k) k c i = ((decide (m ≤ c) && decide (i = k)) || runE s F' m M (s.length - (k + 1)) (k + 1) (c + 1) i) := fun i => run_go hlt hb hFk hM
      have HGO := Lib.hid hgo
      clear hgo hM hkl hb
      rw [hFk] at HCk
      clear hFk
      go_wp2_with fail
      refine wp_region_noPanic ?_
      refine wp_region_held_drew (S := fun wq => RS wq w b N (g) O1 O2) (by kernel_rfl) ?_ (fun hHeld => ?_)
      ·(try dsimp only); exact HW.out.drew
      refine tk (i := 0) (v := ?_) rfl ?_ ?_; rotate_left
      ·(intro wq hSw; (try dsimp only at hSw); go_simp); (try with_reducible rfl)
      try simp only [Act.put, tkS]
      refine tk (i := 1) (v := ?_) rfl ?_ ?_; rotate_left
      ·(intro wq hSw; (try dsimp only at hSw); go_simp); (try with_reducible rfl)
      try simp only [Act.put, tkS]
      refine tk (i := 2) (v := ?_) rfl ?_ ?_; rotate_left
      ·(intro wq hSw; (try dsimp only at hSw); have c8 : wq.cell? ⟨w.heap.size, 8, none⟩ = some (.int .i64 M) := (hSw.b1.cell 8).trans (by rw [HO1.out]; rfl); go_simp); (try with_reducible rfl)
      try simp only [Act.put, tkS]
      refine tk (i := 3) (v := ?_) rfl ?_ ?_; rotate_left
      ·(intro wq hSw; (try dsimp only at hSw); go_simp); (try with_reducible rfl)
      try simp only [Act.put, tkS]
      refine tk (i := 4) (v := ?_) rfl ?_ ?_; rotate_left
      ·(intro wq hSw; (try dsimp only at hSw); go_simp); (try with_reducible rfl)
      try simp only [Act.put, tkS]
      refine tk (i := 5) (v := ?_) rfl ?_ ?_; rotate_left
      ·(intro wq hSw; (try dsimp only at hSw); go_simp); (try with_reducible rfl)
      try simp only [Act.put, tkS]
      refine tk (i := 6) (v := ?_) rfl ?_ ?_; rotate_left
      ·(intro wq hSw; (try dsimp only at hSw); go_simp); (try with_reducible rfl)
      try simp only [Act.put, tkS]
      refine tk (i := 7) (v := ?_) rfl ?_ ?_; rotate_left
      ·(intro wq hSw; (try dsimp only at hSw); go_simp); (try with_reducible rfl)
      try simp only [Act.put, tkS]
      refine tk (i := 8) (v := ?_) rfl ?_ ?_; rotate_left
      ·(intro wq hSw; (try dsimp only at hSw); go_simp); (try with_reducible rfl)
      try simp only [Act.put, tkS]
      refine tk (i := 9) (v := ?_) rfl ?_ ?_; rotate_left
      ·(intro wq hSw; (try dsimp only at hSw); have x1 := (HTR.out.keeps hSw.k hXb).c1; go_simp); (try with_reducible rfl)
      try simp only [Act.put, tkS]
      refine tk (i := 10) (v := ?_) rfl ?_ ?_; rotate_left
      ·(intro wq hSw; (try dsimp only at hSw); go_simp); (try with_reducible rfl)
      try simp only [Act.put, tkS]
      refine tk (i := 11) (v := ?_) rfl ?_ ?_; rotate_left
      ·(intro wq hSw; (try dsimp only at hSw); go_simp); (try with_reducible rfl)
      try simp only [Act.put, tkS]
      refine tk (i := 12) (v := ?_) rfl ?_ ?_; rotate_left
      ·(intro wq hSw; (try dsimp only at hSw); go_simp); (try with_reducible rfl)
      try simp only [Act.put, tkS]
      refine tk (i := 13) (v := ?_) rfl ?_ ?_; rotate_left
      ·(intro wq hSw; (try dsimp only at hSw); go_simp); (try with_reducible rfl)
      try simp only [Act.put, tkS]
      refine tk (i := 14) (v := ?_) rfl ?_ ?_; rotate_left
      ·(intro wq hSw; (try dsimp only at hSw); have z0 : wq.cell? ⟨w.heap.size + 1, 0, none⟩ = some (.int .u64 u0) := (hSw.b2.cell 0).trans (by rw [HO2.out]; rfl); have z1 : wq.cell? ⟨w.heap.size + 1, 1, none⟩ = some (.int .u64 u1) := (hSw.b2.cell 1).trans (by rw [HO2.out]; rfl); have z2 : wq.cell? ⟨w.heap.size + 1, 2, none⟩ = some (.int .u64 u2) := (hSw.b2.cell 2).trans (by rw [HO2.out]; rfl); have z3 : wq.cell? ⟨w.heap.size + 1, 3, none⟩ = some (.int .u64 u3) := (hSw.b2.cell 3).trans (by rw [HO2.out]; rfl); go_simp); (try with_reducible rfl)
      try simp only [Act.put, tkS]
      refine tk (i := 15) (v := ?_) rfl ?_ ?_; rotate_left
      ·(intro wq hSw; (try dsimp only at hSw); go_simp); (try with_reducible rfl)
      try simp only [Act.put, tkS]
      refine tk (i := 16) (v := ?_) rfl ?_ ?_; rotate_left
      ·(intro wq hSw; (try dsimp only at hSw); go_simp); (try with_reducible rfl)
      try simp only [Act.put, tkS]
      refine tk (i := 17) (v := ?_) rfl ?_ ?_; rotate_left
      ·(intro wq hSw; (try dsimp only at hSw); go_simp); (try with_reducible rfl)
      try simp only [Act.put, tkS]
      refine tk (i := 18) (v := ?_) rfl ?_ ?_; rotate_left
      ·(intro wq hSw; (try dsimp only at hSw); have x1 := (HTR.out.keeps hSw.k hXb).c1; go_simp); (try with_reducible rfl)
      try simp only [Act.put, tkS]
      refine tk (i := 19) (v := ?_) rfl ?_ ?_; rotate_left
      ·(intro wq hSw; (try dsimp only at hSw); go_simp); (try with_reducible rfl)
      try simp only [Act.put, tkS]
      refine tk (i := 20) (v := ?_) rfl ?_ ?_; rotate_left
      ·(intro wq hSw; (try dsimp only at hSw); go_simp); (try with_reducible rfl)
      try simp only [Act.put, tkS]
      refine wpAnyH_ready (rs := [21]) (by kernel_rfl) (by simp) ?_
      refine AllReadyH.cons rfl (fun K hK => ?_) ?_
      rotate_left
      ·exact AllReadyH.nil
      go_simp
      refine (HCk.out _).mono ?_
      rintro e w3 ⟨rfl, hB3⟩
      refine hK.out _ _ ?_ (fun hHeld => ?_)
      ·(try dsimp only); first | exact hHeld.below hB3 | exact hHeld.below' hB3
      clear hK K
      try simp only [Act.put, tkS]
      refine tk (i := 22) (v := ?_) rfl ?_ ?_; rotate_left
      ·(intro wq hSw; (try dsimp only at hSw); go_simp); (try with_reducible rfl)
      try simp only [Act.put, tkS]
      refine tk (i := 23) (v := ?_) rfl ?_ ?_; rotate_left
      ·(intro wq hSw; (try dsimp only at hSw); go_simp); (try with_reducible rfl)
      try simp only [Act.put, tkS]
      refine wpAnyH_done (by kernel_rfl) ?_ _
      refine NoPanic.normal ?_
      go_wp2
      go_roundw
      case rel => exact ⟨k + 1, c + 1, _, by simp, by simp, by omega, by omega, hHeld, HNX.out HGO.out⟩
      case measure => (simp [RowKit.intOf]) <;> omega
end Go.Proofs.YtgllmhheahlpjaaGreatDoor
