/- begin. -/
import Derived.Test.YtaamhjjdhebjfaaGreatDoorAdE
namespace Go.Proofs.YtaamhjjdhebjfaaGreatDoor
open Go.RowKit
set_option linter.unusedVariables false
set_option linter.unusedSimpArgs false

def begV (b : Nat) : Value := .agg #[.func (.func 67) #[] #[], .func (.func 68) #[] #[.pointer (some ⟨b, 0, none⟩)], .func (.func 69) #[] #[.pointer (some ⟨b, 0, none⟩)], .func (.func 67) #[] #[], .func (.func 70) #[] #[.pointer (some ⟨b, 0, none⟩)], .func (.func 71) #[] #[.pointer (some ⟨b, 0, none⟩)], .func (.func 72) #[] #[.pointer (some ⟨b, 0, none⟩)]]
set_option maxRecDepth 100000 in
set_option maxHeartbeats 4000000 in
theorem beginners_c (w : World) : Calls Tryz.prog 48 #[] w fun e w' => ∃ b, e = .returned (begV b) ∧ w'.cell? ⟨b, 0, none⟩ = some opnV ∧ Below w.heap.size w w' := by
  unfold begV
  go_enter Tryz.func48, Tryz.ntmps48
  go_wp2
  refine bodyPost_ret (v := begV (w.heap.size + 1)) (by simp [results, Tryz.results48, go_sem, begV]) rfl ⟨w.heap.size + 1, rfl, ?_, ?_⟩
  · simp [go_sem, opnV]
  · exact Below.al2 w _ _

set_option maxRecDepth 100000 in
set_option maxHeartbeats 8000000 in
theorem begin_c (a : Ad) (N : Int) (L : Bool) (hv : Value) (h0 : 0 ≤ N) (h1 : N ≤ 999999999) (h2 : a.n ≤ 999999999) (h3 : 0 ≤ a.n) (w : World) :
    Calls Tryz.prog 37 #[adv a, lnv N L hv] w fun e w' => e = .returned (stv (begA a N L)) ∧ Below w.heap.size w w' := by
  by_cases hr : 0 ≤ a.k ∧ a.k ≤ 6
  · rcases (by omega : a.k = 0 ∨ a.k = 1 ∨ a.k = 2 ∨ a.k = 3 ∨ a.k = 4 ∨ a.k = 5 ∨ a.k = 6) with q | q | q | q | q | q | q
    · obtain ⟨k, n, m⟩ := a
      obtain rfl : k = 0 := q
      simp only at h2 h3
      have HX0 := fun w b (h : w.cell? ⟨b, 0, none⟩ = some opnV) => never_c ⟨0, n, m⟩ N L hv w
      rw [show begA ⟨0, n, m⟩ N L = (((false, 0) : Bool × Int)) from rfl]
      try simp only at HX0
      have HK := Lib.hid (fun w => iskind_c 0 w)
      rw [show (decide ((0 : Int) ≤ 0) && decide ((0 : Int) < 7)) = true from rfl] at HK
      have HB := Lib.hid (Below.al3 w)
      have HN := Lib.hid (fun o1 o2 => Two.new3 w o1 o2 44 (.bool false) (.int .i64 0))
      have HT := Lib.hid (fun w => beginners_c w)
      generalize (((false, 0) : Bool × Int)) = X at HX0 ⊢
      obtain ⟨x1, x2⟩ := X
      have HX := Lib.hid HX0
      unfold adv lnv stv at HX
      unfold adv lnv stv
      have hidx : ∀ b w, (Instr.index 86 (begV b) (.int .i64 0)).run Tryz.prog w = .ok (.func (.func 67) #[] #[]) w := fun b w => by kernel_rfl
      unfold begV at hidx HT
      clear h0 h1 h2 h3 hr HX0
      go_enter Tryz.func37, Tryz.ntmps37
      go_wp2_with fail
      refine (HK.out _).mono ?_
      rintro e w1 ⟨rfl, rfl⟩
      go_wp2_with fail
      refine wp_region_noPanic ?_
      refine wp_region_held_drew (S := fun w' => (w'.cell? ⟨w.heap.size, 0, none⟩ = some (.int .i64 0) ∧ w'.cell? ⟨w.heap.size, 1, none⟩ = some (.int .i64 n) ∧ w'.cell? ⟨w.heap.size, 2, none⟩ = some (.int .i64 m) ∧ w'.cell? ⟨(w.heap.size + 1), 0, none⟩ = some (.int .i64 N) ∧ w'.cell? ⟨(w.heap.size + 1), 1, none⟩ = some (.bool L) ∧ w'.cell? ⟨(w.heap.size + 1), 2, none⟩ = some (hv)) ∧ (∃ v0 v1, Two w' (w.heap.size + 1 + 1) 44 v0 v1) ∧ Below w.heap.size w w') (by kernel_rfl) ?_ (fun hHeld => ?_)
      · (try dsimp only); exact ⟨by simp [go_sem], ⟨_, _, (HN.out (.cells #[.int .i64 0, .int .i64 n, .int .i64 m] 23) (.cells #[.int .i64 N, .bool L, hv] 48)).drew⟩, (HB.out _ _ _).drew⟩
      refine wpAnyH_take (i := 1) (v := ?_) rfl (by kernel_rfl) (by kernel_rfl) (by kernel_rfl) (fun _ _ _ h => h) (Or.inl ⟨by kernel_rfl, ?_⟩) (by assumption) ?_
      rotate_left
      · (intro w hSw; (try dsimp only at hSw); (try obtain ⟨⟨c0, c1, c2, c3, c4, c5⟩, hT, hB⟩ := hSw); go_simp); (try with_reducible rfl)
      try simp only [Act.put, List.getElem_toArray, List.getElem_cons_succ, List.getElem_cons_zero, List.setIfInBounds_toArray, List.set_cons_zero, List.set_cons_succ]
      refine wpAnyH_take (i := 2) (v := ?_) rfl (by kernel_rfl) (by kernel_rfl) (by kernel_rfl) (fun _ _ _ h => h) (Or.inl ⟨by kernel_rfl, ?_⟩) (by assumption) ?_
      rotate_left
      · (intro w hSw; (try dsimp only at hSw); (try obtain ⟨⟨c0, c1, c2, c3, c4, c5⟩, hT, hB⟩ := hSw); go_simp); (try with_reducible rfl)
      try simp only [Act.put, List.getElem_toArray, List.getElem_cons_succ, List.getElem_cons_zero, List.setIfInBounds_toArray, List.set_cons_zero, List.set_cons_succ]
      refine wpAnyH_take (i := 4) (v := ?_) rfl (by kernel_rfl) (by kernel_rfl) (by kernel_rfl) (fun _ _ _ h => h) (Or.inl ⟨by kernel_rfl, ?_⟩) (by assumption) ?_
      rotate_left
      · (intro w hSw; (try dsimp only at hSw); (try obtain ⟨⟨c0, c1, c2, c3, c4, c5⟩, hT, hB⟩ := hSw); go_simp); (try with_reducible rfl)
      try simp only [Act.put, List.getElem_toArray, List.getElem_cons_succ, List.getElem_cons_zero, List.setIfInBounds_toArray, List.set_cons_zero, List.set_cons_succ]
      refine wpAnyH_take (i := 5) (v := ?_) rfl (by kernel_rfl) (by kernel_rfl) (by kernel_rfl) (fun _ _ _ h => h) (Or.inl ⟨by kernel_rfl, ?_⟩) (by assumption) ?_
      rotate_left
      · (intro w hSw; (try dsimp only at hSw); (try obtain ⟨⟨c0, c1, c2, c3, c4, c5⟩, hT, hB⟩ := hSw); go_simp); (try with_reducible rfl)
      try simp only [Act.put, List.getElem_toArray, List.getElem_cons_succ, List.getElem_cons_zero, List.setIfInBounds_toArray, List.set_cons_zero, List.set_cons_succ]
      refine wpAnyH_ready (rs := [0]) (by kernel_rfl) (by simp) ?_
      refine AllReadyH.cons rfl (fun K hK => ?_) ?_
      rotate_left
      · exact AllReadyH.nil
      go_simp
      have hHn := hHeld
      obtain ⟨⟨c0, c1, c2, c3, c4, c5⟩, hT, hB⟩ := hHn
      refine (HT.out _).mono ?_
      rintro e wN ⟨b, rfl, hbN, hBN⟩
      clear c0 c1 c2 c3 c4 c5 hT hB
      refine hK.out _ _ ?_ (fun hHeld => ?_)
      · (try dsimp only); obtain ⟨⟨c0, c1, c2, c3, c4, c5⟩, hT, hB⟩ := hHeld; exact ⟨⟨cell_keep hBN c0, cell_keep hBN c1, cell_keep hBN c2, cell_keep hBN c3, cell_keep hBN c4, cell_keep hBN c5⟩, (hT.elim fun v0 h => h.elim fun v1 h => ⟨v0, v1, h.beside hBN⟩), hB.trans (hBN.mono hB.size)⟩
      clear hK K
      try simp only [Act.put, List.getElem_toArray, List.getElem_cons_succ, List.getElem_cons_zero, List.setIfInBounds_toArray, List.set_cons_zero, List.set_cons_succ]
      refine wpAnyH_take (i := 3) (v := ?_) rfl (by kernel_rfl) (by kernel_rfl) (by kernel_rfl) (fun _ _ _ h => h) (Or.inl ⟨by kernel_rfl, ?_⟩) (by assumption) ?_
      rotate_left
      · (intro w hSw; (try dsimp only at hSw); (try obtain ⟨⟨c0, c1, c2, c3, c4, c5⟩, hT, hB⟩ := hSw); go_simp); (try with_reducible rfl)
      try simp only [Act.put, List.getElem_toArray, List.getElem_cons_succ, List.getElem_cons_zero, List.setIfInBounds_toArray, List.set_cons_zero, List.set_cons_succ]
      refine wpAnyH_ready (rs := [6]) (by kernel_rfl) (by simp) ?_
      refine AllReadyH.cons rfl (fun K hK => ?_) ?_
      rotate_left
      · exact AllReadyH.nil
      go_simp
      have hHn := hHeld
      obtain ⟨⟨c0, c1, c2, c3, c4, c5⟩, hT, hB⟩ := hHn
      refine (HX.out _ b hbN).mono ?_
      rintro e wN ⟨rfl, hBN⟩
      clear c0 c1 c2 c3 c4 c5 hT hB
      refine hK.out _ _ ?_ (fun hHeld => ?_)
      · (try dsimp only); obtain ⟨⟨c0, c1, c2, c3, c4, c5⟩, hT, hB⟩ := hHeld; exact ⟨⟨cell_keep hBN c0, cell_keep hBN c1, cell_keep hBN c2, cell_keep hBN c3, cell_keep hBN c4, cell_keep hBN c5⟩, (hT.elim fun v0 h => h.elim fun v1 h => ⟨v0, v1, h.beside hBN⟩), hB.trans (hBN.mono hB.size)⟩
      clear hK K
      try simp only [Act.put, List.getElem_toArray, List.getElem_cons_succ, List.getElem_cons_zero, List.setIfInBounds_toArray, List.set_cons_zero, List.set_cons_succ]
      refine wpAnyH_ready (rs := [7]) (by kernel_rfl) (by simp) ?_
      refine AllReadyH.cons rfl (fun K hK => ?_) ?_
      rotate_left
      · exact AllReadyH.nil
      have hHn := hHeld
      obtain ⟨⟨c0, c1, c2, c3, c4, c5⟩, hT, hB⟩ := hHn
      obtain ⟨v0, v1, hT⟩ := hT
      have hS := hT.s (.bool x1) (.int .i64 x2)
      have hB3 := Below.set2 hB (b := w.heap.size + 1 + 1) (by omega) (.bool x1) (.int .i64 x2)
      have f0 := hT.fz 0
      have f1 := hT.fz 1
      have g0 := hT.c0
      have g1 := hT.c1
      go_simp
      refine hK.out _ _ ?_ (fun hHeld => ?_)
      · (try dsimp only); exact ⟨⟨cell_set2 c0 (by omega), cell_set2 c1 (by omega), cell_set2 c2 (by omega), cell_set2 c3 (by omega), cell_set2 c4 (by omega), cell_set2 c5 (by omega)⟩, ⟨_, _, hS⟩, hB3⟩
      clear hK K
      try simp only [Act.put, List.getElem_toArray, List.getElem_cons_succ, List.getElem_cons_zero, List.setIfInBounds_toArray, List.set_cons_zero, List.set_cons_succ]
      refine wpAnyH_done (by kernel_rfl) ?_ _
      refine NoPanic.normal ?_
      go_wp2
      refine bodyPost_ret (v := .agg #[.bool x1, .int .i64 x2]) (by simp [results, Tryz.results37, go_sem, hS.c0, hS.c1]) rfl ⟨rfl, hB3⟩
    · obtain ⟨k, n, m⟩ := a
      obtain rfl : k = 1 := q
      simp only at h2 h3
      have HX0 := fun w b (h : w.cell? ⟨b, 0, none⟩ = some opnV) => beg3_c ⟨1, n, m⟩ N L hv b h0 h1 h2 h3 w h
      rw [show begA ⟨1, n, m⟩ N L = (opn (decide (N < n)) n) from rfl]
      try simp only at HX0
      have HK := Lib.hid (fun w => iskind_c 1 w)
      rw [show (decide ((0 : Int) ≤ 1) && decide ((1 : Int) < 7)) = true from rfl] at HK
      have HB := Lib.hid (Below.al3 w)
      have HN := Lib.hid (fun o1 o2 => Two.new3 w o1 o2 44 (.bool false) (.int .i64 0))
      have HT := Lib.hid (fun w => beginners_c w)
      generalize (opn (decide (N < n)) n) = X at HX0 ⊢
      obtain ⟨x1, x2⟩ := X
      have HX := Lib.hid HX0
      unfold adv lnv stv at HX
      unfold adv lnv stv
      have hidx : ∀ b w, (Instr.index 86 (begV b) (.int .i64 1)).run Tryz.prog w = .ok (.func (.func 68) #[] #[.pointer (some ⟨b, 0, none⟩)]) w := fun b w => by kernel_rfl
      unfold begV at hidx HT
      clear h0 h1 h2 h3 hr HX0
      go_enter Tryz.func37, Tryz.ntmps37
      go_wp2_with fail
      refine (HK.out _).mono ?_
      rintro e w1 ⟨rfl, rfl⟩
      go_wp2_with fail
      refine wp_region_noPanic ?_
      refine wp_region_held_drew (S := fun w' => (w'.cell? ⟨w.heap.size, 0, none⟩ = some (.int .i64 1) ∧ w'.cell? ⟨w.heap.size, 1, none⟩ = some (.int .i64 n) ∧ w'.cell? ⟨w.heap.size, 2, none⟩ = some (.int .i64 m) ∧ w'.cell? ⟨(w.heap.size + 1), 0, none⟩ = some (.int .i64 N) ∧ w'.cell? ⟨(w.heap.size + 1), 1, none⟩ = some (.bool L) ∧ w'.cell? ⟨(w.heap.size + 1), 2, none⟩ = some (hv)) ∧ (∃ v0 v1, Two w' (w.heap.size + 1 + 1) 44 v0 v1) ∧ Below w.heap.size w w') (by kernel_rfl) ?_ (fun hHeld => ?_)
      · (try dsimp only); exact ⟨by simp [go_sem], ⟨_, _, (HN.out (.cells #[.int .i64 1, .int .i64 n, .int .i64 m] 23) (.cells #[.int .i64 N, .bool L, hv] 48)).drew⟩, (HB.out _ _ _).drew⟩
      refine wpAnyH_take (i := 1) (v := ?_) rfl (by kernel_rfl) (by kernel_rfl) (by kernel_rfl) (fun _ _ _ h => h) (Or.inl ⟨by kernel_rfl, ?_⟩) (by assumption) ?_
      rotate_left
      · (intro w hSw; (try dsimp only at hSw); (try obtain ⟨⟨c0, c1, c2, c3, c4, c5⟩, hT, hB⟩ := hSw); go_simp); (try with_reducible rfl)
      try simp only [Act.put, List.getElem_toArray, List.getElem_cons_succ, List.getElem_cons_zero, List.setIfInBounds_toArray, List.set_cons_zero, List.set_cons_succ]
      refine wpAnyH_take (i := 2) (v := ?_) rfl (by kernel_rfl) (by kernel_rfl) (by kernel_rfl) (fun _ _ _ h => h) (Or.inl ⟨by kernel_rfl, ?_⟩) (by assumption) ?_
      rotate_left
      · (intro w hSw; (try dsimp only at hSw); (try obtain ⟨⟨c0, c1, c2, c3, c4, c5⟩, hT, hB⟩ := hSw); go_simp); (try with_reducible rfl)
      try simp only [Act.put, List.getElem_toArray, List.getElem_cons_succ, List.getElem_cons_zero, List.setIfInBounds_toArray, List.set_cons_zero, List.set_cons_succ]
      refine wpAnyH_take (i := 4) (v := ?_) rfl (by kernel_rfl) (by kernel_rfl) (by kernel_rfl) (fun _ _ _ h => h) (Or.inl ⟨by kernel_rfl, ?_⟩) (by assumption) ?_
      rotate_left
      · (intro w hSw; (try dsimp only at hSw); (try obtain ⟨⟨c0, c1, c2, c3, c4, c5⟩, hT, hB⟩ := hSw); go_simp); (try with_reducible rfl)
      try simp only [Act.put, List.getElem_toArray, List.getElem_cons_succ, List.getElem_cons_zero, List.setIfInBounds_toArray, List.set_cons_zero, List.set_cons_succ]
      refine wpAnyH_take (i := 5) (v := ?_) rfl (by kernel_rfl) (by kernel_rfl) (by kernel_rfl) (fun _ _ _ h => h) (Or.inl ⟨by kernel_rfl, ?_⟩) (by assumption) ?_
      rotate_left
      · (intro w hSw; (try dsimp only at hSw); (try obtain ⟨⟨c0, c1, c2, c3, c4, c5⟩, hT, hB⟩ := hSw); go_simp); (try with_reducible rfl)
      try simp only [Act.put, List.getElem_toArray, List.getElem_cons_succ, List.getElem_cons_zero, List.setIfInBounds_toArray, List.set_cons_zero, List.set_cons_succ]
      refine wpAnyH_ready (rs := [0]) (by kernel_rfl) (by simp) ?_
      refine AllReadyH.cons rfl (fun K hK => ?_) ?_
      rotate_left
      · exact AllReadyH.nil
      go_simp
      have hHn := hHeld
      obtain ⟨⟨c0, c1, c2, c3, c4, c5⟩, hT, hB⟩ := hHn
      refine (HT.out _).mono ?_
      rintro e wN ⟨b, rfl, hbN, hBN⟩
      clear c0 c1 c2 c3 c4 c5 hT hB
      refine hK.out _ _ ?_ (fun hHeld => ?_)
      · (try dsimp only); obtain ⟨⟨c0, c1, c2, c3, c4, c5⟩, hT, hB⟩ := hHeld; exact ⟨⟨cell_keep hBN c0, cell_keep hBN c1, cell_keep hBN c2, cell_keep hBN c3, cell_keep hBN c4, cell_keep hBN c5⟩, (hT.elim fun v0 h => h.elim fun v1 h => ⟨v0, v1, h.beside hBN⟩), hB.trans (hBN.mono hB.size)⟩
      clear hK K
      try simp only [Act.put, List.getElem_toArray, List.getElem_cons_succ, List.getElem_cons_zero, List.setIfInBounds_toArray, List.set_cons_zero, List.set_cons_succ]
      refine wpAnyH_take (i := 3) (v := ?_) rfl (by kernel_rfl) (by kernel_rfl) (by kernel_rfl) (fun _ _ _ h => h) (Or.inl ⟨by kernel_rfl, ?_⟩) (by assumption) ?_
      rotate_left
      · (intro w hSw; (try dsimp only at hSw); (try obtain ⟨⟨c0, c1, c2, c3, c4, c5⟩, hT, hB⟩ := hSw); go_simp); (try with_reducible rfl)
      try simp only [Act.put, List.getElem_toArray, List.getElem_cons_succ, List.getElem_cons_zero, List.setIfInBounds_toArray, List.set_cons_zero, List.set_cons_succ]
      refine wpAnyH_ready (rs := [6]) (by kernel_rfl) (by simp) ?_
      refine AllReadyH.cons rfl (fun K hK => ?_) ?_
      rotate_left
      · exact AllReadyH.nil
      go_simp
      have hHn := hHeld
      obtain ⟨⟨c0, c1, c2, c3, c4, c5⟩, hT, hB⟩ := hHn
      refine (HX.out _ b hbN).mono ?_
      rintro e wN ⟨rfl, hBN⟩
      clear c0 c1 c2 c3 c4 c5 hT hB
      refine hK.out _ _ ?_ (fun hHeld => ?_)
      · (try dsimp only); obtain ⟨⟨c0, c1, c2, c3, c4, c5⟩, hT, hB⟩ := hHeld; exact ⟨⟨cell_keep hBN c0, cell_keep hBN c1, cell_keep hBN c2, cell_keep hBN c3, cell_keep hBN c4, cell_keep hBN c5⟩, (hT.elim fun v0 h => h.elim fun v1 h => ⟨v0, v1, h.beside hBN⟩), hB.trans (hBN.mono hB.size)⟩
      clear hK K
      try simp only [Act.put, List.getElem_toArray, List.getElem_cons_succ, List.getElem_cons_zero, List.setIfInBounds_toArray, List.set_cons_zero, List.set_cons_succ]
      refine wpAnyH_ready (rs := [7]) (by kernel_rfl) (by simp) ?_
      refine AllReadyH.cons rfl (fun K hK => ?_) ?_
      rotate_left
      · exact AllReadyH.nil
      have hHn := hHeld
      obtain ⟨⟨c0, c1, c2, c3, c4, c5⟩, hT, hB⟩ := hHn
      obtain ⟨v0, v1, hT⟩ := hT
      have hS := hT.s (.bool x1) (.int .i64 x2)
      have hB3 := Below.set2 hB (b := w.heap.size + 1 + 1) (by omega) (.bool x1) (.int .i64 x2)
      have f0 := hT.fz 0
      have f1 := hT.fz 1
      have g0 := hT.c0
      have g1 := hT.c1
      go_simp
      refine hK.out _ _ ?_ (fun hHeld => ?_)
      · (try dsimp only); exact ⟨⟨cell_set2 c0 (by omega), cell_set2 c1 (by omega), cell_set2 c2 (by omega), cell_set2 c3 (by omega), cell_set2 c4 (by omega), cell_set2 c5 (by omega)⟩, ⟨_, _, hS⟩, hB3⟩
      clear hK K
      try simp only [Act.put, List.getElem_toArray, List.getElem_cons_succ, List.getElem_cons_zero, List.setIfInBounds_toArray, List.set_cons_zero, List.set_cons_succ]
      refine wpAnyH_done (by kernel_rfl) ?_ _
      refine NoPanic.normal ?_
      go_wp2
      refine bodyPost_ret (v := .agg #[.bool x1, .int .i64 x2]) (by simp [results, Tryz.results37, go_sem, hS.c0, hS.c1]) rfl ⟨rfl, hB3⟩
    · obtain ⟨k, n, m⟩ := a
      obtain rfl : k = 2 := q
      simp only at h2 h3
      have HX0 := fun w b (h : w.cell? ⟨b, 0, none⟩ = some opnV) => beg4_c ⟨2, n, m⟩ N L hv b h0 h1 h2 h3 w h
      rw [show begA ⟨2, n, m⟩ N L = (opn (!L) 0) from rfl]
      try simp only at HX0
      have HK := Lib.hid (fun w => iskind_c 2 w)
      rw [show (decide ((0 : Int) ≤ 2) && decide ((2 : Int) < 7)) = true from rfl] at HK
      have HB := Lib.hid (Below.al3 w)
      have HN := Lib.hid (fun o1 o2 => Two.new3 w o1 o2 44 (.bool false) (.int .i64 0))
      have HT := Lib.hid (fun w => beginners_c w)
      generalize (opn (!L) 0) = X at HX0 ⊢
      obtain ⟨x1, x2⟩ := X
      have HX := Lib.hid HX0
      unfold adv lnv stv at HX
      unfold adv lnv stv
      have hidx : ∀ b w, (Instr.index 86 (begV b) (.int .i64 2)).run Tryz.prog w = .ok (.func (.func 69) #[] #[.pointer (some ⟨b, 0, none⟩)]) w := fun b w => by kernel_rfl
      unfold begV at hidx HT
      clear h0 h1 h2 h3 hr HX0
      go_enter Tryz.func37, Tryz.ntmps37
      go_wp2_with fail
      refine (HK.out _).mono ?_
      rintro e w1 ⟨rfl, rfl⟩
      go_wp2_with fail
      refine wp_region_noPanic ?_
      refine wp_region_held_drew (S := fun w' => (w'.cell? ⟨w.heap.size, 0, none⟩ = some (.int .i64 2) ∧ w'.cell? ⟨w.heap.size, 1, none⟩ = some (.int .i64 n) ∧ w'.cell? ⟨w.heap.size, 2, none⟩ = some (.int .i64 m) ∧ w'.cell? ⟨(w.heap.size + 1), 0, none⟩ = some (.int .i64 N) ∧ w'.cell? ⟨(w.heap.size + 1), 1, none⟩ = some (.bool L) ∧ w'.cell? ⟨(w.heap.size + 1), 2, none⟩ = some (hv)) ∧ (∃ v0 v1, Two w' (w.heap.size + 1 + 1) 44 v0 v1) ∧ Below w.heap.size w w') (by kernel_rfl) ?_ (fun hHeld => ?_)
      · (try dsimp only); exact ⟨by simp [go_sem], ⟨_, _, (HN.out (.cells #[.int .i64 2, .int .i64 n, .int .i64 m] 23) (.cells #[.int .i64 N, .bool L, hv] 48)).drew⟩, (HB.out _ _ _).drew⟩
      refine wpAnyH_take (i := 1) (v := ?_) rfl (by kernel_rfl) (by kernel_rfl) (by kernel_rfl) (fun _ _ _ h => h) (Or.inl ⟨by kernel_rfl, ?_⟩) (by assumption) ?_
      rotate_left
      · (intro w hSw; (try dsimp only at hSw); (try obtain ⟨⟨c0, c1, c2, c3, c4, c5⟩, hT, hB⟩ := hSw); go_simp); (try with_reducible rfl)
      try simp only [Act.put, List.getElem_toArray, List.getElem_cons_succ, List.getElem_cons_zero, List.setIfInBounds_toArray, List.set_cons_zero, List.set_cons_succ]
      refine wpAnyH_take (i := 2) (v := ?_) rfl (by kernel_rfl) (by kernel_rfl) (by kernel_rfl) (fun _ _ _ h => h) (Or.inl ⟨by kernel_rfl, ?_⟩) (by assumption) ?_
      rotate_left
      · (intro w hSw; (try dsimp only at hSw); (try obtain ⟨⟨c0, c1, c2, c3, c4, c5⟩, hT, hB⟩ := hSw); go_simp); (try with_reducible rfl)
      try simp only [Act.put, List.getElem_toArray, List.getElem_cons_succ, List.getElem_cons_zero, List.setIfInBounds_toArray, List.set_cons_zero, List.set_cons_succ]
      refine wpAnyH_take (i := 4) (v := ?_) rfl (by kernel_rfl) (by kernel_rfl) (by kernel_rfl) (fun _ _ _ h => h) (Or.inl ⟨by kernel_rfl, ?_⟩) (by assumption) ?_
      rotate_left
      · (intro w hSw; (try dsimp only at hSw); (try obtain ⟨⟨c0, c1, c2, c3, c4, c5⟩, hT, hB⟩ := hSw); go_simp); (try with_reducible rfl)
      try simp only [Act.put, List.getElem_toArray, List.getElem_cons_succ, List.getElem_cons_zero, List.setIfInBounds_toArray, List.set_cons_zero, List.set_cons_succ]
      refine wpAnyH_take (i := 5) (v := ?_) rfl (by kernel_rfl) (by kernel_rfl) (by kernel_rfl) (fun _ _ _ h => h) (Or.inl ⟨by kernel_rfl, ?_⟩) (by assumption) ?_
      rotate_left
      · (intro w hSw; (try dsimp only at hSw); (try obtain ⟨⟨c0, c1, c2, c3, c4, c5⟩, hT, hB⟩ := hSw); go_simp); (try with_reducible rfl)
      try simp only [Act.put, List.getElem_toArray, List.getElem_cons_succ, List.getElem_cons_zero, List.setIfInBounds_toArray, List.set_cons_zero, List.set_cons_succ]
      refine wpAnyH_ready (rs := [0]) (by kernel_rfl) (by simp) ?_
      refine AllReadyH.cons rfl (fun K hK => ?_) ?_
      rotate_left
      · exact AllReadyH.nil
      go_simp
      have hHn := hHeld
      obtain ⟨⟨c0, c1, c2, c3, c4, c5⟩, hT, hB⟩ := hHn
      refine (HT.out _).mono ?_
      rintro e wN ⟨b, rfl, hbN, hBN⟩
      clear c0 c1 c2 c3 c4 c5 hT hB
      refine hK.out _ _ ?_ (fun hHeld => ?_)
      · (try dsimp only); obtain ⟨⟨c0, c1, c2, c3, c4, c5⟩, hT, hB⟩ := hHeld; exact ⟨⟨cell_keep hBN c0, cell_keep hBN c1, cell_keep hBN c2, cell_keep hBN c3, cell_keep hBN c4, cell_keep hBN c5⟩, (hT.elim fun v0 h => h.elim fun v1 h => ⟨v0, v1, h.beside hBN⟩), hB.trans (hBN.mono hB.size)⟩
      clear hK K
      try simp only [Act.put, List.getElem_toArray, List.getElem_cons_succ, List.getElem_cons_zero, List.setIfInBounds_toArray, List.set_cons_zero, List.set_cons_succ]
      refine wpAnyH_take (i := 3) (v := ?_) rfl (by kernel_rfl) (by kernel_rfl) (by kernel_rfl) (fun _ _ _ h => h) (Or.inl ⟨by kernel_rfl, ?_⟩) (by assumption) ?_
      rotate_left
      · (intro w hSw; (try dsimp only at hSw); (try obtain ⟨⟨c0, c1, c2, c3, c4, c5⟩, hT, hB⟩ := hSw); go_simp); (try with_reducible rfl)
      try simp only [Act.put, List.getElem_toArray, List.getElem_cons_succ, List.getElem_cons_zero, List.setIfInBounds_toArray, List.set_cons_zero, List.set_cons_succ]
      refine wpAnyH_ready (rs := [6]) (by kernel_rfl) (by simp) ?_
      refine AllReadyH.cons rfl (fun K hK => ?_) ?_
      rotate_left
      · exact AllReadyH.nil
      go_simp
      have hHn := hHeld
      obtain ⟨⟨c0, c1, c2, c3, c4, c5⟩, hT, hB⟩ := hHn
      refine (HX.out _ b hbN).mono ?_
      rintro e wN ⟨rfl, hBN⟩
      clear c0 c1 c2 c3 c4 c5 hT hB
      refine hK.out _ _ ?_ (fun hHeld => ?_)
      · (try dsimp only); obtain ⟨⟨c0, c1, c2, c3, c4, c5⟩, hT, hB⟩ := hHeld; exact ⟨⟨cell_keep hBN c0, cell_keep hBN c1, cell_keep hBN c2, cell_keep hBN c3, cell_keep hBN c4, cell_keep hBN c5⟩, (hT.elim fun v0 h => h.elim fun v1 h => ⟨v0, v1, h.beside hBN⟩), hB.trans (hBN.mono hB.size)⟩
      clear hK K
      try simp only [Act.put, List.getElem_toArray, List.getElem_cons_succ, List.getElem_cons_zero, List.setIfInBounds_toArray, List.set_cons_zero, List.set_cons_succ]
      refine wpAnyH_ready (rs := [7]) (by kernel_rfl) (by simp) ?_
      refine AllReadyH.cons rfl (fun K hK => ?_) ?_
      rotate_left
      · exact AllReadyH.nil
      have hHn := hHeld
      obtain ⟨⟨c0, c1, c2, c3, c4, c5⟩, hT, hB⟩ := hHn
      obtain ⟨v0, v1, hT⟩ := hT
      have hS := hT.s (.bool x1) (.int .i64 x2)
      have hB3 := Below.set2 hB (b := w.heap.size + 1 + 1) (by omega) (.bool x1) (.int .i64 x2)
      have f0 := hT.fz 0
      have f1 := hT.fz 1
      have g0 := hT.c0
      have g1 := hT.c1
      go_simp
      refine hK.out _ _ ?_ (fun hHeld => ?_)
      · (try dsimp only); exact ⟨⟨cell_set2 c0 (by omega), cell_set2 c1 (by omega), cell_set2 c2 (by omega), cell_set2 c3 (by omega), cell_set2 c4 (by omega), cell_set2 c5 (by omega)⟩, ⟨_, _, hS⟩, hB3⟩
      clear hK K
      try simp only [Act.put, List.getElem_toArray, List.getElem_cons_succ, List.getElem_cons_zero, List.setIfInBounds_toArray, List.set_cons_zero, List.set_cons_succ]
      refine wpAnyH_done (by kernel_rfl) ?_ _
      refine NoPanic.normal ?_
      go_wp2
      refine bodyPost_ret (v := .agg #[.bool x1, .int .i64 x2]) (by simp [results, Tryz.results37, go_sem, hS.c0, hS.c1]) rfl ⟨rfl, hB3⟩
    · obtain ⟨k, n, m⟩ := a
      obtain rfl : k = 3 := q
      simp only at h2 h3
      have HX0 := fun w b (h : w.cell? ⟨b, 0, none⟩ = some opnV) => never_c ⟨3, n, m⟩ N L hv w
      rw [show begA ⟨3, n, m⟩ N L = (((false, 0) : Bool × Int)) from rfl]
      try simp only at HX0
      have HK := Lib.hid (fun w => iskind_c 3 w)
      rw [show (decide ((0 : Int) ≤ 3) && decide ((3 : Int) < 7)) = true from rfl] at HK
      have HB := Lib.hid (Below.al3 w)
      have HN := Lib.hid (fun o1 o2 => Two.new3 w o1 o2 44 (.bool false) (.int .i64 0))
      have HT := Lib.hid (fun w => beginners_c w)
      generalize (((false, 0) : Bool × Int)) = X at HX0 ⊢
      obtain ⟨x1, x2⟩ := X
      have HX := Lib.hid HX0
      unfold adv lnv stv at HX
      unfold adv lnv stv
      have hidx : ∀ b w, (Instr.index 86 (begV b) (.int .i64 3)).run Tryz.prog w = .ok (.func (.func 67) #[] #[]) w := fun b w => by kernel_rfl
      unfold begV at hidx HT
      clear h0 h1 h2 h3 hr HX0
      go_enter Tryz.func37, Tryz.ntmps37
      go_wp2_with fail
      refine (HK.out _).mono ?_
      rintro e w1 ⟨rfl, rfl⟩
      go_wp2_with fail
      refine wp_region_noPanic ?_
      refine wp_region_held_drew (S := fun w' => (w'.cell? ⟨w.heap.size, 0, none⟩ = some (.int .i64 3) ∧ w'.cell? ⟨w.heap.size, 1, none⟩ = some (.int .i64 n) ∧ w'.cell? ⟨w.heap.size, 2, none⟩ = some (.int .i64 m) ∧ w'.cell? ⟨(w.heap.size + 1), 0, none⟩ = some (.int .i64 N) ∧ w'.cell? ⟨(w.heap.size + 1), 1, none⟩ = some (.bool L) ∧ w'.cell? ⟨(w.heap.size + 1), 2, none⟩ = some (hv)) ∧ (∃ v0 v1, Two w' (w.heap.size + 1 + 1) 44 v0 v1) ∧ Below w.heap.size w w') (by kernel_rfl) ?_ (fun hHeld => ?_)
      · (try dsimp only); exact ⟨by simp [go_sem], ⟨_, _, (HN.out (.cells #[.int .i64 3, .int .i64 n, .int .i64 m] 23) (.cells #[.int .i64 N, .bool L, hv] 48)).drew⟩, (HB.out _ _ _).drew⟩
      refine wpAnyH_take (i := 1) (v := ?_) rfl (by kernel_rfl) (by kernel_rfl) (by kernel_rfl) (fun _ _ _ h => h) (Or.inl ⟨by kernel_rfl, ?_⟩) (by assumption) ?_
      rotate_left
      · (intro w hSw; (try dsimp only at hSw); (try obtain ⟨⟨c0, c1, c2, c3, c4, c5⟩, hT, hB⟩ := hSw); go_simp); (try with_reducible rfl)
      try simp only [Act.put, List.getElem_toArray, List.getElem_cons_succ, List.getElem_cons_zero, List.setIfInBounds_toArray, List.set_cons_zero, List.set_cons_succ]
      refine wpAnyH_take (i := 2) (v := ?_) rfl (by kernel_rfl) (by kernel_rfl) (by kernel_rfl) (fun _ _ _ h => h) (Or.inl ⟨by kernel_rfl, ?_⟩) (by assumption) ?_
      rotate_left
      · (intro w hSw; (try dsimp only at hSw); (try obtain ⟨⟨c0, c1, c2, c3, c4, c5⟩, hT, hB⟩ := hSw); go_simp); (try with_reducible rfl)
      try simp only [Act.put, List.getElem_toArray, List.getElem_cons_succ, List.getElem_cons_zero, List.setIfInBounds_toArray, List.set_cons_zero, List.set_cons_succ]
      refine wpAnyH_take (i := 4) (v := ?_) rfl (by kernel_rfl) (by kernel_rfl) (by kernel_rfl) (fun _ _ _ h => h) (Or.inl ⟨by kernel_rfl, ?_⟩) (by assumption) ?_
      rotate_left
      · (intro w hSw; (try dsimp only at hSw); (try obtain ⟨⟨c0, c1, c2, c3, c4, c5⟩, hT, hB⟩ := hSw); go_simp); (try with_reducible rfl)
      try simp only [Act.put, List.getElem_toArray, List.getElem_cons_succ, List.getElem_cons_zero, List.setIfInBounds_toArray, List.set_cons_zero, List.set_cons_succ]
      refine wpAnyH_take (i := 5) (v := ?_) rfl (by kernel_rfl) (by kernel_rfl) (by kernel_rfl) (fun _ _ _ h => h) (Or.inl ⟨by kernel_rfl, ?_⟩) (by assumption) ?_
      rotate_left
      · (intro w hSw; (try dsimp only at hSw); (try obtain ⟨⟨c0, c1, c2, c3, c4, c5⟩, hT, hB⟩ := hSw); go_simp); (try with_reducible rfl)
      try simp only [Act.put, List.getElem_toArray, List.getElem_cons_succ, List.getElem_cons_zero, List.setIfInBounds_toArray, List.set_cons_zero, List.set_cons_succ]
      refine wpAnyH_ready (rs := [0]) (by kernel_rfl) (by simp) ?_
      refine AllReadyH.cons rfl (fun K hK => ?_) ?_
      rotate_left
      · exact AllReadyH.nil
      go_simp
      have hHn := hHeld
      obtain ⟨⟨c0, c1, c2, c3, c4, c5⟩, hT, hB⟩ := hHn
      refine (HT.out _).mono ?_
      rintro e wN ⟨b, rfl, hbN, hBN⟩
      clear c0 c1 c2 c3 c4 c5 hT hB
      refine hK.out _ _ ?_ (fun hHeld => ?_)
      · (try dsimp only); obtain ⟨⟨c0, c1, c2, c3, c4, c5⟩, hT, hB⟩ := hHeld; exact ⟨⟨cell_keep hBN c0, cell_keep hBN c1, cell_keep hBN c2, cell_keep hBN c3, cell_keep hBN c4, cell_keep hBN c5⟩, (hT.elim fun v0 h => h.elim fun v1 h => ⟨v0, v1, h.beside hBN⟩), hB.trans (hBN.mono hB.size)⟩
      clear hK K
      try simp only [Act.put, List.getElem_toArray, List.getElem_cons_succ, List.getElem_cons_zero, List.setIfInBounds_toArray, List.set_cons_zero, List.set_cons_succ]
      refine wpAnyH_take (i := 3) (v := ?_) rfl (by kernel_rfl) (by kernel_rfl) (by kernel_rfl) (fun _ _ _ h => h) (Or.inl ⟨by kernel_rfl, ?_⟩) (by assumption) ?_
      rotate_left
      · (intro w hSw; (try dsimp only at hSw); (try obtain ⟨⟨c0, c1, c2, c3, c4, c5⟩, hT, hB⟩ := hSw); go_simp); (try with_reducible rfl)
      try simp only [Act.put, List.getElem_toArray, List.getElem_cons_succ, List.getElem_cons_zero, List.setIfInBounds_toArray, List.set_cons_zero, List.set_cons_succ]
      refine wpAnyH_ready (rs := [6]) (by kernel_rfl) (by simp) ?_
      refine AllReadyH.cons rfl (fun K hK => ?_) ?_
      rotate_left
      · exact AllReadyH.nil
      go_simp
      have hHn := hHeld
      obtain ⟨⟨c0, c1, c2, c3, c4, c5⟩, hT, hB⟩ := hHn
      refine (HX.out _ b hbN).mono ?_
      rintro e wN ⟨rfl, hBN⟩
      clear c0 c1 c2 c3 c4 c5 hT hB
      refine hK.out _ _ ?_ (fun hHeld => ?_)
      · (try dsimp only); obtain ⟨⟨c0, c1, c2, c3, c4, c5⟩, hT, hB⟩ := hHeld; exact ⟨⟨cell_keep hBN c0, cell_keep hBN c1, cell_keep hBN c2, cell_keep hBN c3, cell_keep hBN c4, cell_keep hBN c5⟩, (hT.elim fun v0 h => h.elim fun v1 h => ⟨v0, v1, h.beside hBN⟩), hB.trans (hBN.mono hB.size)⟩
      clear hK K
      try simp only [Act.put, List.getElem_toArray, List.getElem_cons_succ, List.getElem_cons_zero, List.setIfInBounds_toArray, List.set_cons_zero, List.set_cons_succ]
      refine wpAnyH_ready (rs := [7]) (by kernel_rfl) (by simp) ?_
      refine AllReadyH.cons rfl (fun K hK => ?_) ?_
      rotate_left
      · exact AllReadyH.nil
      have hHn := hHeld
      obtain ⟨⟨c0, c1, c2, c3, c4, c5⟩, hT, hB⟩ := hHn
      obtain ⟨v0, v1, hT⟩ := hT
      have hS := hT.s (.bool x1) (.int .i64 x2)
      have hB3 := Below.set2 hB (b := w.heap.size + 1 + 1) (by omega) (.bool x1) (.int .i64 x2)
      have f0 := hT.fz 0
      have f1 := hT.fz 1
      have g0 := hT.c0
      have g1 := hT.c1
      go_simp
      refine hK.out _ _ ?_ (fun hHeld => ?_)
      · (try dsimp only); exact ⟨⟨cell_set2 c0 (by omega), cell_set2 c1 (by omega), cell_set2 c2 (by omega), cell_set2 c3 (by omega), cell_set2 c4 (by omega), cell_set2 c5 (by omega)⟩, ⟨_, _, hS⟩, hB3⟩
      clear hK K
      try simp only [Act.put, List.getElem_toArray, List.getElem_cons_succ, List.getElem_cons_zero, List.setIfInBounds_toArray, List.set_cons_zero, List.set_cons_succ]
      refine wpAnyH_done (by kernel_rfl) ?_ _
      refine NoPanic.normal ?_
      go_wp2
      refine bodyPost_ret (v := .agg #[.bool x1, .int .i64 x2]) (by simp [results, Tryz.results37, go_sem, hS.c0, hS.c1]) rfl ⟨rfl, hB3⟩
    · obtain ⟨k, n, m⟩ := a
      obtain rfl : k = 4 := q
      simp only at h2 h3
      have HX0 := fun w b (h : w.cell? ⟨b, 0, none⟩ = some opnV) => beg5_c ⟨4, n, m⟩ N L hv b h0 h1 h2 h3 w h
      rw [show begA ⟨4, n, m⟩ N L = (opn true 0) from rfl]
      try simp only at HX0
      have HK := Lib.hid (fun w => iskind_c 4 w)
      rw [show (decide ((0 : Int) ≤ 4) && decide ((4 : Int) < 7)) = true from rfl] at HK
      have HB := Lib.hid (Below.al3 w)
      have HN := Lib.hid (fun o1 o2 => Two.new3 w o1 o2 44 (.bool false) (.int .i64 0))
      have HT := Lib.hid (fun w => beginners_c w)
      generalize (opn true 0) = X at HX0 ⊢
      obtain ⟨x1, x2⟩ := X
      have HX := Lib.hid HX0
      unfold adv lnv stv at HX
      unfold adv lnv stv
      have hidx : ∀ b w, (Instr.index 86 (begV b) (.int .i64 4)).run Tryz.prog w = .ok (.func (.func 70) #[] #[.pointer (some ⟨b, 0, none⟩)]) w := fun b w => by kernel_rfl
      unfold begV at hidx HT
      clear h0 h1 h2 h3 hr HX0
      go_enter Tryz.func37, Tryz.ntmps37
      go_wp2_with fail
      refine (HK.out _).mono ?_
      rintro e w1 ⟨rfl, rfl⟩
      go_wp2_with fail
      refine wp_region_noPanic ?_
      refine wp_region_held_drew (S := fun w' => (w'.cell? ⟨w.heap.size, 0, none⟩ = some (.int .i64 4) ∧ w'.cell? ⟨w.heap.size, 1, none⟩ = some (.int .i64 n) ∧ w'.cell? ⟨w.heap.size, 2, none⟩ = some (.int .i64 m) ∧ w'.cell? ⟨(w.heap.size + 1), 0, none⟩ = some (.int .i64 N) ∧ w'.cell? ⟨(w.heap.size + 1), 1, none⟩ = some (.bool L) ∧ w'.cell? ⟨(w.heap.size + 1), 2, none⟩ = some (hv)) ∧ (∃ v0 v1, Two w' (w.heap.size + 1 + 1) 44 v0 v1) ∧ Below w.heap.size w w') (by kernel_rfl) ?_ (fun hHeld => ?_)
      · (try dsimp only); exact ⟨by simp [go_sem], ⟨_, _, (HN.out (.cells #[.int .i64 4, .int .i64 n, .int .i64 m] 23) (.cells #[.int .i64 N, .bool L, hv] 48)).drew⟩, (HB.out _ _ _).drew⟩
      refine wpAnyH_take (i := 1) (v := ?_) rfl (by kernel_rfl) (by kernel_rfl) (by kernel_rfl) (fun _ _ _ h => h) (Or.inl ⟨by kernel_rfl, ?_⟩) (by assumption) ?_
      rotate_left
      · (intro w hSw; (try dsimp only at hSw); (try obtain ⟨⟨c0, c1, c2, c3, c4, c5⟩, hT, hB⟩ := hSw); go_simp); (try with_reducible rfl)
      try simp only [Act.put, List.getElem_toArray, List.getElem_cons_succ, List.getElem_cons_zero, List.setIfInBounds_toArray, List.set_cons_zero, List.set_cons_succ]
      refine wpAnyH_take (i := 2) (v := ?_) rfl (by kernel_rfl) (by kernel_rfl) (by kernel_rfl) (fun _ _ _ h => h) (Or.inl ⟨by kernel_rfl, ?_⟩) (by assumption) ?_
      rotate_left
      · (intro w hSw; (try dsimp only at hSw); (try obtain ⟨⟨c0, c1, c2, c3, c4, c5⟩, hT, hB⟩ := hSw); go_simp); (try with_reducible rfl)
      try simp only [Act.put, List.getElem_toArray, List.getElem_cons_succ, List.getElem_cons_zero, List.setIfInBounds_toArray, List.set_cons_zero, List.set_cons_succ]
      refine wpAnyH_take (i := 4) (v := ?_) rfl (by kernel_rfl) (by kernel_rfl) (by kernel_rfl) (fun _ _ _ h => h) (Or.inl ⟨by kernel_rfl, ?_⟩) (by assumption) ?_
      rotate_left
      · (intro w hSw; (try dsimp only at hSw); (try obtain ⟨⟨c0, c1, c2, c3, c4, c5⟩, hT, hB⟩ := hSw); go_simp); (try with_reducible rfl)
      try simp only [Act.put, List.getElem_toArray, List.getElem_cons_succ, List.getElem_cons_zero, List.setIfInBounds_toArray, List.set_cons_zero, List.set_cons_succ]
      refine wpAnyH_take (i := 5) (v := ?_) rfl (by kernel_rfl) (by kernel_rfl) (by kernel_rfl) (fun _ _ _ h => h) (Or.inl ⟨by kernel_rfl, ?_⟩) (by assumption) ?_
      rotate_left
      · (intro w hSw; (try dsimp only at hSw); (try obtain ⟨⟨c0, c1, c2, c3, c4, c5⟩, hT, hB⟩ := hSw); go_simp); (try with_reducible rfl)
      try simp only [Act.put, List.getElem_toArray, List.getElem_cons_succ, List.getElem_cons_zero, List.setIfInBounds_toArray, List.set_cons_zero, List.set_cons_succ]
      refine wpAnyH_ready (rs := [0]) (by kernel_rfl) (by simp) ?_
      refine AllReadyH.cons rfl (fun K hK => ?_) ?_
      rotate_left
      · exact AllReadyH.nil
      go_simp
      have hHn := hHeld
      obtain ⟨⟨c0, c1, c2, c3, c4, c5⟩, hT, hB⟩ := hHn
      refine (HT.out _).mono ?_
      rintro e wN ⟨b, rfl, hbN, hBN⟩
      clear c0 c1 c2 c3 c4 c5 hT hB
      refine hK.out _ _ ?_ (fun hHeld => ?_)
      · (try dsimp only); obtain ⟨⟨c0, c1, c2, c3, c4, c5⟩, hT, hB⟩ := hHeld; exact ⟨⟨cell_keep hBN c0, cell_keep hBN c1, cell_keep hBN c2, cell_keep hBN c3, cell_keep hBN c4, cell_keep hBN c5⟩, (hT.elim fun v0 h => h.elim fun v1 h => ⟨v0, v1, h.beside hBN⟩), hB.trans (hBN.mono hB.size)⟩
      clear hK K
      try simp only [Act.put, List.getElem_toArray, List.getElem_cons_succ, List.getElem_cons_zero, List.setIfInBounds_toArray, List.set_cons_zero, List.set_cons_succ]
      refine wpAnyH_take (i := 3) (v := ?_) rfl (by kernel_rfl) (by kernel_rfl) (by kernel_rfl) (fun _ _ _ h => h) (Or.inl ⟨by kernel_rfl, ?_⟩) (by assumption) ?_
      rotate_left
      · (intro w hSw; (try dsimp only at hSw); (try obtain ⟨⟨c0, c1, c2, c3, c4, c5⟩, hT, hB⟩ := hSw); go_simp); (try with_reducible rfl)
      try simp only [Act.put, List.getElem_toArray, List.getElem_cons_succ, List.getElem_cons_zero, List.setIfInBounds_toArray, List.set_cons_zero, List.set_cons_succ]
      refine wpAnyH_ready (rs := [6]) (by kernel_rfl) (by simp) ?_
      refine AllReadyH.cons rfl (fun K hK => ?_) ?_
      rotate_left
      · exact AllReadyH.nil
      go_simp
      have hHn := hHeld
      obtain ⟨⟨c0, c1, c2, c3, c4, c5⟩, hT, hB⟩ := hHn
      refine (HX.out _ b hbN).mono ?_
      rintro e wN ⟨rfl, hBN⟩
      clear c0 c1 c2 c3 c4 c5 hT hB
      refine hK.out _ _ ?_ (fun hHeld => ?_)
      · (try dsimp only); obtain ⟨⟨c0, c1, c2, c3, c4, c5⟩, hT, hB⟩ := hHeld; exact ⟨⟨cell_keep hBN c0, cell_keep hBN c1, cell_keep hBN c2, cell_keep hBN c3, cell_keep hBN c4, cell_keep hBN c5⟩, (hT.elim fun v0 h => h.elim fun v1 h => ⟨v0, v1, h.beside hBN⟩), hB.trans (hBN.mono hB.size)⟩
      clear hK K
      try simp only [Act.put, List.getElem_toArray, List.getElem_cons_succ, List.getElem_cons_zero, List.setIfInBounds_toArray, List.set_cons_zero, List.set_cons_succ]
      refine wpAnyH_ready (rs := [7]) (by kernel_rfl) (by simp) ?_
      refine AllReadyH.cons rfl (fun K hK => ?_) ?_
      rotate_left
      · exact AllReadyH.nil
      have hHn := hHeld
      obtain ⟨⟨c0, c1, c2, c3, c4, c5⟩, hT, hB⟩ := hHn
      obtain ⟨v0, v1, hT⟩ := hT
      have hS := hT.s (.bool x1) (.int .i64 x2)
      have hB3 := Below.set2 hB (b := w.heap.size + 1 + 1) (by omega) (.bool x1) (.int .i64 x2)
      have f0 := hT.fz 0
      have f1 := hT.fz 1
      have g0 := hT.c0
      have g1 := hT.c1
      go_simp
      refine hK.out _ _ ?_ (fun hHeld => ?_)
      · (try dsimp only); exact ⟨⟨cell_set2 c0 (by omega), cell_set2 c1 (by omega), cell_set2 c2 (by omega), cell_set2 c3 (by omega), cell_set2 c4 (by omega), cell_set2 c5 (by omega)⟩, ⟨_, _, hS⟩, hB3⟩
      clear hK K
      try simp only [Act.put, List.getElem_toArray, List.getElem_cons_succ, List.getElem_cons_zero, List.setIfInBounds_toArray, List.set_cons_zero, List.set_cons_succ]
      refine wpAnyH_done (by kernel_rfl) ?_ _
      refine NoPanic.normal ?_
      go_wp2
      refine bodyPost_ret (v := .agg #[.bool x1, .int .i64 x2]) (by simp [results, Tryz.results37, go_sem, hS.c0, hS.c1]) rfl ⟨rfl, hB3⟩
    · obtain ⟨k, n, m⟩ := a
      obtain rfl : k = 5 := q
      simp only at h2 h3
      have HX0 := fun w b (h : w.cell? ⟨b, 0, none⟩ = some opnV) => beg6_c ⟨5, n, m⟩ N L hv b h0 h1 h2 h3 w h
      rw [show begA ⟨5, n, m⟩ N L = (opn (decide (0 < n)) (N + n)) from rfl]
      try simp only at HX0
      have HK := Lib.hid (fun w => iskind_c 5 w)
      rw [show (decide ((0 : Int) ≤ 5) && decide ((5 : Int) < 7)) = true from rfl] at HK
      have HB := Lib.hid (Below.al3 w)
      have HN := Lib.hid (fun o1 o2 => Two.new3 w o1 o2 44 (.bool false) (.int .i64 0))
      have HT := Lib.hid (fun w => beginners_c w)
      generalize (opn (decide (0 < n)) (N + n)) = X at HX0 ⊢
      obtain ⟨x1, x2⟩ := X
      have HX := Lib.hid HX0
      unfold adv lnv stv at HX
      unfold adv lnv stv
      have hidx : ∀ b w, (Instr.index 86 (begV b) (.int .i64 5)).run Tryz.prog w = .ok (.func (.func 71) #[] #[.pointer (some ⟨b, 0, none⟩)]) w := fun b w => by kernel_rfl
      unfold begV at hidx HT
      clear h0 h1 h2 h3 hr HX0
      go_enter Tryz.func37, Tryz.ntmps37
      go_wp2_with fail
      refine (HK.out _).mono ?_
      rintro e w1 ⟨rfl, rfl⟩
      go_wp2_with fail
      refine wp_region_noPanic ?_
      refine wp_region_held_drew (S := fun w' => (w'.cell? ⟨w.heap.size, 0, none⟩ = some (.int .i64 5) ∧ w'.cell? ⟨w.heap.size, 1, none⟩ = some (.int .i64 n) ∧ w'.cell? ⟨w.heap.size, 2, none⟩ = some (.int .i64 m) ∧ w'.cell? ⟨(w.heap.size + 1), 0, none⟩ = some (.int .i64 N) ∧ w'.cell? ⟨(w.heap.size + 1), 1, none⟩ = some (.bool L) ∧ w'.cell? ⟨(w.heap.size + 1), 2, none⟩ = some (hv)) ∧ (∃ v0 v1, Two w' (w.heap.size + 1 + 1) 44 v0 v1) ∧ Below w.heap.size w w') (by kernel_rfl) ?_ (fun hHeld => ?_)
      · (try dsimp only); exact ⟨by simp [go_sem], ⟨_, _, (HN.out (.cells #[.int .i64 5, .int .i64 n, .int .i64 m] 23) (.cells #[.int .i64 N, .bool L, hv] 48)).drew⟩, (HB.out _ _ _).drew⟩
      refine wpAnyH_take (i := 1) (v := ?_) rfl (by kernel_rfl) (by kernel_rfl) (by kernel_rfl) (fun _ _ _ h => h) (Or.inl ⟨by kernel_rfl, ?_⟩) (by assumption) ?_
      rotate_left
      · (intro w hSw; (try dsimp only at hSw); (try obtain ⟨⟨c0, c1, c2, c3, c4, c5⟩, hT, hB⟩ := hSw); go_simp); (try with_reducible rfl)
      try simp only [Act.put, List.getElem_toArray, List.getElem_cons_succ, List.getElem_cons_zero, List.setIfInBounds_toArray, List.set_cons_zero, List.set_cons_succ]
      refine wpAnyH_take (i := 2) (v := ?_) rfl (by kernel_rfl) (by kernel_rfl) (by kernel_rfl) (fun _ _ _ h => h) (Or.inl ⟨by kernel_rfl, ?_⟩) (by assumption) ?_
      rotate_left
      · (intro w hSw; (try dsimp only at hSw); (try obtain ⟨⟨c0, c1, c2, c3, c4, c5⟩, hT, hB⟩ := hSw); go_simp); (try with_reducible rfl)
      try simp only [Act.put, List.getElem_toArray, List.getElem_cons_succ, List.getElem_cons_zero, List.setIfInBounds_toArray, List.set_cons_zero, List.set_cons_succ]
      refine wpAnyH_take (i := 4) (v := ?_) rfl (by kernel_rfl) (by kernel_rfl) (by kernel_rfl) (fun _ _ _ h => h) (Or.inl ⟨by kernel_rfl, ?_⟩) (by assumption) ?_
      rotate_left
      · (intro w hSw; (try dsimp only at hSw); (try obtain ⟨⟨c0, c1, c2, c3, c4, c5⟩, hT, hB⟩ := hSw); go_simp); (try with_reducible rfl)
      try simp only [Act.put, List.getElem_toArray, List.getElem_cons_succ, List.getElem_cons_zero, List.setIfInBounds_toArray, List.set_cons_zero, List.set_cons_succ]
      refine wpAnyH_take (i := 5) (v := ?_) rfl (by kernel_rfl) (by kernel_rfl) (by kernel_rfl) (fun _ _ _ h => h) (Or.inl ⟨by kernel_rfl, ?_⟩) (by assumption) ?_
      rotate_left
      · (intro w hSw; (try dsimp only at hSw); (try obtain ⟨⟨c0, c1, c2, c3, c4, c5⟩, hT, hB⟩ := hSw); go_simp); (try with_reducible rfl)
      try simp only [Act.put, List.getElem_toArray, List.getElem_cons_succ, List.getElem_cons_zero, List.setIfInBounds_toArray, List.set_cons_zero, List.set_cons_succ]
      refine wpAnyH_ready (rs := [0]) (by kernel_rfl) (by simp) ?_
      refine AllReadyH.cons rfl (fun K hK => ?_) ?_
      rotate_left
      · exact AllReadyH.nil
      go_simp
      have hHn := hHeld
      obtain ⟨⟨c0, c1, c2, c3, c4, c5⟩, hT, hB⟩ := hHn
      refine (HT.out _).mono ?_
      rintro e wN ⟨b, rfl, hbN, hBN⟩
      clear c0 c1 c2 c3 c4 c5 hT hB
      refine hK.out _ _ ?_ (fun hHeld => ?_)
      · (try dsimp only); obtain ⟨⟨c0, c1, c2, c3, c4, c5⟩, hT, hB⟩ := hHeld; exact ⟨⟨cell_keep hBN c0, cell_keep hBN c1, cell_keep hBN c2, cell_keep hBN c3, cell_keep hBN c4, cell_keep hBN c5⟩, (hT.elim fun v0 h => h.elim fun v1 h => ⟨v0, v1, h.beside hBN⟩), hB.trans (hBN.mono hB.size)⟩
      clear hK K
      try simp only [Act.put, List.getElem_toArray, List.getElem_cons_succ, List.getElem_cons_zero, List.setIfInBounds_toArray, List.set_cons_zero, List.set_cons_succ]
      refine wpAnyH_take (i := 3) (v := ?_) rfl (by kernel_rfl) (by kernel_rfl) (by kernel_rfl) (fun _ _ _ h => h) (Or.inl ⟨by kernel_rfl, ?_⟩) (by assumption) ?_
      rotate_left
      · (intro w hSw; (try dsimp only at hSw); (try obtain ⟨⟨c0, c1, c2, c3, c4, c5⟩, hT, hB⟩ := hSw); go_simp); (try with_reducible rfl)
      try simp only [Act.put, List.getElem_toArray, List.getElem_cons_succ, List.getElem_cons_zero, List.setIfInBounds_toArray, List.set_cons_zero, List.set_cons_succ]
      refine wpAnyH_ready (rs := [6]) (by kernel_rfl) (by simp) ?_
      refine AllReadyH.cons rfl (fun K hK => ?_) ?_
      rotate_left
      · exact AllReadyH.nil
      go_simp
      have hHn := hHeld
      obtain ⟨⟨c0, c1, c2, c3, c4, c5⟩, hT, hB⟩ := hHn
      refine (HX.out _ b hbN).mono ?_
      rintro e wN ⟨rfl, hBN⟩
      clear c0 c1 c2 c3 c4 c5 hT hB
      refine hK.out _ _ ?_ (fun hHeld => ?_)
      · (try dsimp only); obtain ⟨⟨c0, c1, c2, c3, c4, c5⟩, hT, hB⟩ := hHeld; exact ⟨⟨cell_keep hBN c0, cell_keep hBN c1, cell_keep hBN c2, cell_keep hBN c3, cell_keep hBN c4, cell_keep hBN c5⟩, (hT.elim fun v0 h => h.elim fun v1 h => ⟨v0, v1, h.beside hBN⟩), hB.trans (hBN.mono hB.size)⟩
      clear hK K
      try simp only [Act.put, List.getElem_toArray, List.getElem_cons_succ, List.getElem_cons_zero, List.setIfInBounds_toArray, List.set_cons_zero, List.set_cons_succ]
      refine wpAnyH_ready (rs := [7]) (by kernel_rfl) (by simp) ?_
      refine AllReadyH.cons rfl (fun K hK => ?_) ?_
      rotate_left
      · exact AllReadyH.nil
      have hHn := hHeld
      obtain ⟨⟨c0, c1, c2, c3, c4, c5⟩, hT, hB⟩ := hHn
      obtain ⟨v0, v1, hT⟩ := hT
      have hS := hT.s (.bool x1) (.int .i64 x2)
      have hB3 := Below.set2 hB (b := w.heap.size + 1 + 1) (by omega) (.bool x1) (.int .i64 x2)
      have f0 := hT.fz 0
      have f1 := hT.fz 1
      have g0 := hT.c0
      have g1 := hT.c1
      go_simp
      refine hK.out _ _ ?_ (fun hHeld => ?_)
      · (try dsimp only); exact ⟨⟨cell_set2 c0 (by omega), cell_set2 c1 (by omega), cell_set2 c2 (by omega), cell_set2 c3 (by omega), cell_set2 c4 (by omega), cell_set2 c5 (by omega)⟩, ⟨_, _, hS⟩, hB3⟩
      clear hK K
      try simp only [Act.put, List.getElem_toArray, List.getElem_cons_succ, List.getElem_cons_zero, List.setIfInBounds_toArray, List.set_cons_zero, List.set_cons_succ]
      refine wpAnyH_done (by kernel_rfl) ?_ _
      refine NoPanic.normal ?_
      go_wp2
      refine bodyPost_ret (v := .agg #[.bool x1, .int .i64 x2]) (by simp [results, Tryz.results37, go_sem, hS.c0, hS.c1]) rfl ⟨rfl, hB3⟩
    · obtain ⟨k, n, m⟩ := a
      obtain rfl : k = 6 := q
      simp only at h2 h3
      have HX0 := fun w b (h : w.cell? ⟨b, 0, none⟩ = some opnV) => beg7_c ⟨6, n, m⟩ N L hv b h0 h1 h2 h3 w h
      rw [show begA ⟨6, n, m⟩ N L = (opn (decide (mulFrom N n ≠ N)) (mulFrom N n)) from rfl]
      try simp only at HX0
      have HK := Lib.hid (fun w => iskind_c 6 w)
      rw [show (decide ((0 : Int) ≤ 6) && decide ((6 : Int) < 7)) = true from rfl] at HK
      have HB := Lib.hid (Below.al3 w)
      have HN := Lib.hid (fun o1 o2 => Two.new3 w o1 o2 44 (.bool false) (.int .i64 0))
      have HT := Lib.hid (fun w => beginners_c w)
      generalize (opn (decide (mulFrom N n ≠ N)) (mulFrom N n)) = X at HX0 ⊢
      obtain ⟨x1, x2⟩ := X
      have HX := Lib.hid HX0
      unfold adv lnv stv at HX
      unfold adv lnv stv
      have hidx : ∀ b w, (Instr.index 86 (begV b) (.int .i64 6)).run Tryz.prog w = .ok (.func (.func 72) #[] #[.pointer (some ⟨b, 0, none⟩)]) w := fun b w => by kernel_rfl
      unfold begV at hidx HT
      clear h0 h1 h2 h3 hr HX0
      go_enter Tryz.func37, Tryz.ntmps37
      go_wp2_with fail
      refine (HK.out _).mono ?_
      rintro e w1 ⟨rfl, rfl⟩
      go_wp2_with fail
      refine wp_region_noPanic ?_
      refine wp_region_held_drew (S := fun w' => (w'.cell? ⟨w.heap.size, 0, none⟩ = some (.int .i64 6) ∧ w'.cell? ⟨w.heap.size, 1, none⟩ = some (.int .i64 n) ∧ w'.cell? ⟨w.heap.size, 2, none⟩ = some (.int .i64 m) ∧ w'.cell? ⟨(w.heap.size + 1), 0, none⟩ = some (.int .i64 N) ∧ w'.cell? ⟨(w.heap.size + 1), 1, none⟩ = some (.bool L) ∧ w'.cell? ⟨(w.heap.size + 1), 2, none⟩ = some (hv)) ∧ (∃ v0 v1, Two w' (w.heap.size + 1 + 1) 44 v0 v1) ∧ Below w.heap.size w w') (by kernel_rfl) ?_ (fun hHeld => ?_)
      · (try dsimp only); exact ⟨by simp [go_sem], ⟨_, _, (HN.out (.cells #[.int .i64 6, .int .i64 n, .int .i64 m] 23) (.cells #[.int .i64 N, .bool L, hv] 48)).drew⟩, (HB.out _ _ _).drew⟩
      refine wpAnyH_take (i := 1) (v := ?_) rfl (by kernel_rfl) (by kernel_rfl) (by kernel_rfl) (fun _ _ _ h => h) (Or.inl ⟨by kernel_rfl, ?_⟩) (by assumption) ?_
      rotate_left
      · (intro w hSw; (try dsimp only at hSw); (try obtain ⟨⟨c0, c1, c2, c3, c4, c5⟩, hT, hB⟩ := hSw); go_simp); (try with_reducible rfl)
      try simp only [Act.put, List.getElem_toArray, List.getElem_cons_succ, List.getElem_cons_zero, List.setIfInBounds_toArray, List.set_cons_zero, List.set_cons_succ]
      refine wpAnyH_take (i := 2) (v := ?_) rfl (by kernel_rfl) (by kernel_rfl) (by kernel_rfl) (fun _ _ _ h => h) (Or.inl ⟨by kernel_rfl, ?_⟩) (by assumption) ?_
      rotate_left
      · (intro w hSw; (try dsimp only at hSw); (try obtain ⟨⟨c0, c1, c2, c3, c4, c5⟩, hT, hB⟩ := hSw); go_simp); (try with_reducible rfl)
      try simp only [Act.put, List.getElem_toArray, List.getElem_cons_succ, List.getElem_cons_zero, List.setIfInBounds_toArray, List.set_cons_zero, List.set_cons_succ]
      refine wpAnyH_take (i := 4) (v := ?_) rfl (by kernel_rfl) (by kernel_rfl) (by kernel_rfl) (fun _ _ _ h => h) (Or.inl ⟨by kernel_rfl, ?_⟩) (by assumption) ?_
      rotate_left
      · (intro w hSw; (try dsimp only at hSw); (try obtain ⟨⟨c0, c1, c2, c3, c4, c5⟩, hT, hB⟩ := hSw); go_simp); (try with_reducible rfl)
      try simp only [Act.put, List.getElem_toArray, List.getElem_cons_succ, List.getElem_cons_zero, List.setIfInBounds_toArray, List.set_cons_zero, List.set_cons_succ]
      refine wpAnyH_take (i := 5) (v := ?_) rfl (by kernel_rfl) (by kernel_rfl) (by kernel_rfl) (fun _ _ _ h => h) (Or.inl ⟨by kernel_rfl, ?_⟩) (by assumption) ?_
      rotate_left
      · (intro w hSw; (try dsimp only at hSw); (try obtain ⟨⟨c0, c1, c2, c3, c4, c5⟩, hT, hB⟩ := hSw); go_simp); (try with_reducible rfl)
      try simp only [Act.put, List.getElem_toArray, List.getElem_cons_succ, List.getElem_cons_zero, List.setIfInBounds_toArray, List.set_cons_zero, List.set_cons_succ]
      refine wpAnyH_ready (rs := [0]) (by kernel_rfl) (by simp) ?_
      refine AllReadyH.cons rfl (fun K hK => ?_) ?_
      rotate_left
      · exact AllReadyH.nil
      go_simp
      have hHn := hHeld
      obtain ⟨⟨c0, c1, c2, c3, c4, c5⟩, hT, hB⟩ := hHn
      refine (HT.out _).mono ?_
      rintro e wN ⟨b, rfl, hbN, hBN⟩
      clear c0 c1 c2 c3 c4 c5 hT hB
      refine hK.out _ _ ?_ (fun hHeld => ?_)
      · (try dsimp only); obtain ⟨⟨c0, c1, c2, c3, c4, c5⟩, hT, hB⟩ := hHeld; exact ⟨⟨cell_keep hBN c0, cell_keep hBN c1, cell_keep hBN c2, cell_keep hBN c3, cell_keep hBN c4, cell_keep hBN c5⟩, (hT.elim fun v0 h => h.elim fun v1 h => ⟨v0, v1, h.beside hBN⟩), hB.trans (hBN.mono hB.size)⟩
      clear hK K
      try simp only [Act.put, List.getElem_toArray, List.getElem_cons_succ, List.getElem_cons_zero, List.setIfInBounds_toArray, List.set_cons_zero, List.set_cons_succ]
      refine wpAnyH_take (i := 3) (v := ?_) rfl (by kernel_rfl) (by kernel_rfl) (by kernel_rfl) (fun _ _ _ h => h) (Or.inl ⟨by kernel_rfl, ?_⟩) (by assumption) ?_
      rotate_left
      · (intro w hSw; (try dsimp only at hSw); (try obtain ⟨⟨c0, c1, c2, c3, c4, c5⟩, hT, hB⟩ := hSw); go_simp); (try with_reducible rfl)
      try simp only [Act.put, List.getElem_toArray, List.getElem_cons_succ, List.getElem_cons_zero, List.setIfInBounds_toArray, List.set_cons_zero, List.set_cons_succ]
      refine wpAnyH_ready (rs := [6]) (by kernel_rfl) (by simp) ?_
      refine AllReadyH.cons rfl (fun K hK => ?_) ?_
      rotate_left
      · exact AllReadyH.nil
      go_simp
      have hHn := hHeld
      obtain ⟨⟨c0, c1, c2, c3, c4, c5⟩, hT, hB⟩ := hHn
      refine (HX.out _ b hbN).mono ?_
      rintro e wN ⟨rfl, hBN⟩
      clear c0 c1 c2 c3 c4 c5 hT hB
      refine hK.out _ _ ?_ (fun hHeld => ?_)
      · (try dsimp only); obtain ⟨⟨c0, c1, c2, c3, c4, c5⟩, hT, hB⟩ := hHeld; exact ⟨⟨cell_keep hBN c0, cell_keep hBN c1, cell_keep hBN c2, cell_keep hBN c3, cell_keep hBN c4, cell_keep hBN c5⟩, (hT.elim fun v0 h => h.elim fun v1 h => ⟨v0, v1, h.beside hBN⟩), hB.trans (hBN.mono hB.size)⟩
      clear hK K
      try simp only [Act.put, List.getElem_toArray, List.getElem_cons_succ, List.getElem_cons_zero, List.setIfInBounds_toArray, List.set_cons_zero, List.set_cons_succ]
      refine wpAnyH_ready (rs := [7]) (by kernel_rfl) (by simp) ?_
      refine AllReadyH.cons rfl (fun K hK => ?_) ?_
      rotate_left
      · exact AllReadyH.nil
      have hHn := hHeld
      obtain ⟨⟨c0, c1, c2, c3, c4, c5⟩, hT, hB⟩ := hHn
      obtain ⟨v0, v1, hT⟩ := hT
      have hS := hT.s (.bool x1) (.int .i64 x2)
      have hB3 := Below.set2 hB (b := w.heap.size + 1 + 1) (by omega) (.bool x1) (.int .i64 x2)
      have f0 := hT.fz 0
      have f1 := hT.fz 1
      have g0 := hT.c0
      have g1 := hT.c1
      go_simp
      refine hK.out _ _ ?_ (fun hHeld => ?_)
      · (try dsimp only); exact ⟨⟨cell_set2 c0 (by omega), cell_set2 c1 (by omega), cell_set2 c2 (by omega), cell_set2 c3 (by omega), cell_set2 c4 (by omega), cell_set2 c5 (by omega)⟩, ⟨_, _, hS⟩, hB3⟩
      clear hK K
      try simp only [Act.put, List.getElem_toArray, List.getElem_cons_succ, List.getElem_cons_zero, List.setIfInBounds_toArray, List.set_cons_zero, List.set_cons_succ]
      refine wpAnyH_done (by kernel_rfl) ?_ _
      refine NoPanic.normal ?_
      go_wp2
      refine bodyPost_ret (v := .agg #[.bool x1, .int .i64 x2]) (by simp [results, Tryz.results37, go_sem, hS.c0, hS.c1]) rfl ⟨rfl, hB3⟩
  · have e : begA a N L = (false, 0) := by
      unfold begA
      rw [if_neg (by omega), if_neg (by omega), if_neg (by omega), if_neg (by omega), if_neg (by omega)]
    rw [e]
    obtain ⟨k, n, m⟩ := a
    simp only at hr
    have HB := Lib.hid (Below.al3 w)
    have HK := Lib.hid (fun w => iskind_c k w)
    rw [show (decide (0 ≤ k) && decide (k < 7)) = false by simp; omega] at HK
    unfold adv lnv stv
    clear e h0 h1 h2 h3 hr
    go_enter Tryz.func37, Tryz.ntmps37
    go_wp2_with fail
    refine (HK.out _).mono ?_
    rintro e w1 ⟨rfl, rfl⟩
    go_wp2
    refine bodyPost_ret (v := .agg #[.bool false, .int .i64 0]) (by simp [results, Tryz.results37, go_sem]) rfl ⟨rfl, HB.out _ _ _⟩

end Go.Proofs.YtaamhjjdhebjfaaGreatDoor
