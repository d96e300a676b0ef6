/- isEnd, goOn. -/
import Derived.Test.YtaamhjjdhebjfaaGreatDoorAdF
namespace Go.Proofs.YtaamhjjdhebjfaaGreatDoor
open Go.RowKit
set_option linter.unusedVariables false
set_option linter.unusedSimpArgs false

theorem Below.al4 (w : World) (o1 o2 o3 o4 : Obj) : Below w.heap.size w ((((w.alloc o1).alloc o2).alloc o3).alloc o4) := by
  have h := Below.al3 w o1 o2 o3
  exact h.alloc h.size o4
theorem Two.new4 (w : World) (o1 o2 o3 : Obj) (t : TypeId) (v0 v1 : Value) : Two ((((w.alloc o1).alloc o2).alloc o3).alloc (.cells #[v0, v1] t)) (w.heap.size + 1 + 1 + 1) t v0 v1 := by
  have h := Two.new (((w.alloc o1).alloc o2).alloc o3) t v0 v1
  rw [World.size_alloc, World.size_alloc, World.size_alloc] at h
  exact h

set_option maxRecDepth 100000 in
set_option maxHeartbeats 8000000 in
theorem isend_c (b : Ad) (s : Bool × Int) (N : Int) (L : Bool) (p : Option Addr) (ln cap : Nat) (H : List Bool) (hN0 : 0 ≤ N) (hN : N ≤ 999999999) (w : World) (hH : Bls w p ln cap H) :
    Calls Tryz.prog 47 #[adv b, stv s, lnv N L (.slice p ln cap)] w fun e w' => e = .returned (.bool (endA b s N L H)) ∧ Below w.heap.size w w' := by
  obtain ⟨k, n, m⟩ := b
  obtain ⟨s1, s2⟩ := s
  have HB := Lib.hid (Below.al3 w (.cells #[.int .i64 k, .int .i64 n, .int .i64 m] 23) (.cells #[.bool s1, .int .i64 s2] 44) (.cells #[.int .i64 N, .bool L, .slice p ln cap] 48))
  have HL := Lib.hid (hH.below HB.out (Nat.le_refl _))
  unfold endA
  simp only
  by_cases h : k = 2 ∨ k = 4
  · rw [if_pos h]
    have HC := Lib.hid (fun w h => hits_c ⟨k, n, m⟩ N L p ln cap H (fun q => absurd q (by rintro rfl; omega)) hN0 hN w h)
    generalize hitA ⟨k, n, m⟩ N L H = X at HC ⊢
    unfold adv lnv at HC
    unfold adv lnv stv
    have t1 : k = 2 ∧ True ∨ k = 4 ∧ (k == 2) = false := by rcases h with rfl | rfl <;> simp
    clear hH hN0 hN h
    rcases t1 with ⟨rfl, _⟩ | ⟨rfl, t2⟩
    · go_enter Tryz.func47, Tryz.ntmps47
      go_wp2_with fail
      refine (HC.out _ HL.out).mono ?_
      rintro e w2 ⟨rfl, hB⟩
      have hB2 := HB.out.trans (hB.mono HB.out.size)
      clear hB
      go_wp2
      go_ret
      exact ⟨rfl, hB2⟩
    · clear t2
      go_enter Tryz.func47, Tryz.ntmps47
      go_wp2_with fail
      refine (HC.out _ HL.out).mono ?_
      rintro e w2 ⟨rfl, hB⟩
      have hB2 := HB.out.trans (hB.mono HB.out.size)
      clear hB
      go_wp2
      go_ret
      exact ⟨rfl, hB2⟩
  · rw [if_neg h]
    have t1 : (k == 2) = false := by rw [beq_eq_false_iff_ne]; omega
    have t2 : (k == 4) = false := by rw [beq_eq_false_iff_ne]; omega
    unfold adv lnv stv
    clear hH hN0 hN h
    go_enter Tryz.func47, Tryz.ntmps47
    go_wp2
    go_ret
    exact ⟨rfl, HB.out⟩

def asv (x : Bool × Bool × Int) : Value := .tuple #[.bool x.1, stv x.2]
set_option maxRecDepth 100000 in
set_option maxHeartbeats 8000000 in
theorem goon_c (r : Rg) (s : Bool × Int) (N : Int) (L : Bool) (p : Option Addr) (ln cap : Nat) (H : List Bool) (hA : r.a.k = 3 → 0 ≤ r.a.n ∧ r.a.n ≤ 999999999 ∧ r.a.m ≤ 999999999) (hN0 : 0 ≤ N) (hN : N ≤ 999999999) (w : World) (hH : Bls w p ln cap H) :
    Calls Tryz.prog 36 #[rgv r, stv s, lnv N L (.slice p ln cap)] w fun e w' => e = .returned (asv (goA r s N L H)) ∧ Below w.heap.size w w' := by
  obtain ⟨⟨ak, an, am⟩, ⟨bk, bn, bm⟩, nt⟩ := r
  obtain ⟨s1, s2⟩ := s
  simp only at hA
  have HB := Lib.hid (Below.al4 w (.cells #[.int .i64 ak, .int .i64 an, .int .i64 am, .int .i64 bk, .int .i64 bn, .int .i64 bm, .bool nt] 25) (.cells #[.bool s1, .int .i64 s2] 44) (.cells #[.int .i64 N, .bool L, .slice p ln cap] 48) (.cells #[.bool false, .int .i64 0] 44))
  have HN := Lib.hid (Two.new4 w (.cells #[.int .i64 ak, .int .i64 an, .int .i64 am, .int .i64 bk, .int .i64 bn, .int .i64 bm, .bool nt] 25) (.cells #[.bool s1, .int .i64 s2] 44) (.cells #[.int .i64 N, .bool L, .slice p ln cap] 48) 44 (.bool false) (.int .i64 0))
  have HL := Lib.hid (hH.below HB.out (Nat.le_refl _))
  have HC0 := fun w h => hits_c ⟨ak, an, am⟩ N L p ln cap H hA hN0 hN w h
  have HE0 := fun w h => isend_c ⟨bk, bn, bm⟩ (s1, s2) N L p ln cap H hN0 hN w h
  have e0 : goA ⟨⟨ak, an, am⟩, ⟨bk, bn, bm⟩, nt⟩ (s1, s2) N L H = if bk = 1 ∧ s2 < N then (hitA ⟨ak, an, am⟩ N L H, false, 0) else if endA ⟨bk, bn, bm⟩ (s1, s2) N L H then (true, false, 0) else (true, s1, s2) := rfl
  rw [e0]
  generalize hitA ⟨ak, an, am⟩ N L H = X at HC0 ⊢
  generalize endA ⟨bk, bn, bm⟩ (s1, s2) N L H = Y at HE0 ⊢
  unfold adv lnv at HC0
  unfold adv lnv stv at HE0
  unfold rgv stv lnv asv stv
  have HC := Lib.hid HC0
  have HE := Lib.hid HE0
  clear HC0 HE0 e0 hH hA hN0 hN
  by_cases h : bk = 1 ∧ s2 < N
  · rw [if_pos h]
    obtain ⟨rfl, h2⟩ := h
    have t2 : decide (s2 < N) = true := by simp [h2]
    go_enter Tryz.func36, Tryz.ntmps36
    go_wp2_with fail
    refine (HC.out _ HL.out).mono ?_
    rintro e wN ⟨rfl, hB⟩
    have hT := HN.out.beside hB
    have hB2 := HB.out.trans (hB.mono HB.out.size)
    have hS := Lib.hid (hT.s (.bool false) (.int .i64 0))
    have hB3 := Lib.hid (Below.set2 hB2 (b := w.heap.size + 1 + 1 + 1) (by omega) (.bool false) (.int .i64 0))
    have c0 := hT.c0
    have c1 := hT.c1
    have f0 := hT.fz 0
    have f1 := hT.fz 1
    clear hB hB2 hT
    go_wp2
    refine bodyPost_ret (v := .tuple #[.bool X, .agg #[.bool false, .int .i64 0]]) (by simp [results, Tryz.results36, go_sem, hS.out.c0, hS.out.c1]) rfl ⟨rfl, hB3.out⟩
  · rw [if_neg h]
    have HT : (bk = 1 ∧ ¬ s2 < N) ∨ (bk == 1) = false := by
      by_cases h1 : bk = 1
      · exact Or.inl ⟨h1, fun h2 => h ⟨h1, h2⟩⟩
      · exact Or.inr (by simpa using h1)
    clear h
    rcases HT with ⟨rfl, h2⟩ | t1
    · have t2 : decide (s2 < N) = false := by simp; omega
      go_enter Tryz.func36, Tryz.ntmps36
      go_wp2_with fail
      refine (HE.out _ HL.out).mono ?_
      rintro e wN ⟨rfl, hB⟩
      cases Y
      · have hT := HN.out.beside hB
        have hB2 := HB.out.trans (hB.mono HB.out.size)
        have d0 := cell_keep hB (show World.cell? _ ⟨w.heap.size + 1, 0, none⟩ = some (.bool s1) by simp [go_sem])
        have d1 := cell_keep hB (show World.cell? _ ⟨w.heap.size + 1, 1, none⟩ = some (.int .i64 s2) by simp [go_sem])
        have hS := Lib.hid (hT.s (.bool s1) (.int .i64 s2))
        have hB3 := Lib.hid (Below.set2 hB2 (b := w.heap.size + 1 + 1 + 1) (by omega) (.bool s1) (.int .i64 s2))
        have c0 := hT.c0
        have c1 := hT.c1
        have f0 := hT.fz 0
        have f1 := hT.fz 1
        clear hB hB2 hT
        go_wp2_with fail
        go_region
        all_goals go_wp2
        all_goals exact bodyPost_ret (v := .tuple #[.bool true, .agg #[.bool s1, .int .i64 s2]]) (by simp [results, Tryz.results36, go_sem, hS.out.c0, hS.out.c1]) rfl ⟨rfl, hB3.out.drew⟩
      · simp only [if_true]
        have hT := HN.out.beside hB
        have hB2 := HB.out.trans (hB.mono HB.out.size)
        have hS := Lib.hid (hT.s (.bool false) (.int .i64 0))
        have hB3 := Lib.hid (Below.set2 hB2 (b := w.heap.size + 1 + 1 + 1) (by omega) (.bool false) (.int .i64 0))
        have c0 := hT.c0
        have c1 := hT.c1
        have f0 := hT.fz 0
        have f1 := hT.fz 1
        clear hB hB2 hT
        go_wp2
        refine bodyPost_ret (v := .tuple #[.bool true, .agg #[.bool false, .int .i64 0]]) (by simp [results, Tryz.results36, go_sem, hS.out.c0, hS.out.c1]) rfl ⟨rfl, hB3.out⟩
    · go_enter Tryz.func36, Tryz.ntmps36
      go_wp2_with fail
      refine (HE.out _ HL.out).mono ?_
      rintro e wN ⟨rfl, hB⟩
      cases Y
      · have hT := HN.out.beside hB
        have hB2 := HB.out.trans (hB.mono HB.out.size)
        have d0 := cell_keep hB (show World.cell? _ ⟨w.heap.size + 1, 0, none⟩ = some (.bool s1) by simp [go_sem])
        have d1 := cell_keep hB (show World.cell? _ ⟨w.heap.size + 1, 1, none⟩ = some (.int .i64 s2) by simp [go_sem])
        have hS := Lib.hid (hT.s (.bool s1) (.int .i64 s2))
        have hB3 := Lib.hid (Below.set2 hB2 (b := w.heap.size + 1 + 1 + 1) (by omega) (.bool s1) (.int .i64 s2))
        have c0 := hT.c0
        have c1 := hT.c1
        have f0 := hT.fz 0
        have f1 := hT.fz 1
        clear hB hB2 hT
        go_wp2_with fail
        go_region
        all_goals go_wp2
        all_goals exact bodyPost_ret (v := .tuple #[.bool true, .agg #[.bool s1, .int .i64 s2]]) (by simp [results, Tryz.results36, go_sem, hS.out.c0, hS.out.c1]) rfl ⟨rfl, hB3.out.drew⟩
      · simp only [if_true]
        have hT := HN.out.beside hB
        have hB2 := HB.out.trans (hB.mono HB.out.size)
        have hS := Lib.hid (hT.s (.bool false) (.int .i64 0))
        have hB3 := Lib.hid (Below.set2 hB2 (b := w.heap.size + 1 + 1 + 1) (by omega) (.bool false) (.int .i64 0))
        have c0 := hT.c0
        have c1 := hT.c1
        have f0 := hT.fz 0
        have f1 := hT.fz 1
        clear hB hB2 hT
        go_wp2
        refine bodyPost_ret (v := .tuple #[.bool true, .agg #[.bool false, .int .i64 0]]) (by simp [results, Tryz.results36, go_sem, hS.out.c0, hS.out.c1]) rfl ⟨rfl, hB3.out⟩

end Go.Proofs.YtaamhjjdhebjfaaGreatDoor
