/- Hits. -/
import Derived.Test.YtaamhjjdhebjfaaGreatDoorAdC
import Derived.Test.YtaamhjjdhebjfaaGreatDoorAdW
namespace Go.Proofs.YtaamhjjdhebjfaaGreatDoor
open Go.RowKit
set_option linter.unusedVariables false
set_option linter.unusedSimpArgs false

theorem hit_of (a : Ad) (N : Int) (L : Bool) (H : List Bool) : hitA a N L H = (if a.k = 0 then true else if a.k = 1 then decide (N = a.n) else if a.k = 2 then L else if a.k = 3 then reachB a N else if a.k = 4 then hasAt H a.n else false) := rfl

set_option maxRecDepth 100000 in
set_option maxHeartbeats 8000000 in
theorem hits_c (a : Ad) (N : Int) (L : Bool) (p : Option Addr) (ln cap : Nat) (H : List Bool) (hk : a.k = 3 → 0 ≤ a.n ∧ a.n ≤ 999999999 ∧ a.m ≤ 999999999) (hN0 : 0 ≤ N) (hN : N ≤ 999999999) (w : World) (hH : Bls w p ln cap H) :
    Calls Tryz.prog 35 #[adv a, lnv N L (.slice p ln cap)] w fun e w' => e = .returned (.bool (hitA a N L H)) ∧ Below w.heap.size w w' := by
  by_cases hr : 0 ≤ a.k ∧ a.k ≤ 6
  · rcases (by omega : a.k = 0 ∨ a.k = 1 ∨ a.k = 2 ∨ a.k = 3 ∨ a.k = 4 ∨ a.k = 5 ∨ a.k = 6) with q | q | q | q | q | q | q
    · obtain ⟨k, n, m⟩ := a
      obtain rfl : k = 0 := q
      have HX0 := fun w (h : Bls w p ln cap H) => hit2_c ⟨0, n, m⟩ N L (.slice p ln cap) w
      rw [show hitA ⟨0, n, m⟩ N L H = (true) from rfl]
      have HK := Lib.hid (fun w => iskind_c 0 w)
      rw [show (decide ((0 : Int) ≤ 0) && decide ((0 : Int) < 7)) = true from rfl] at HK
      have HB := Lib.hid (Below.al2 w)
      have HT := Lib.hid (fun w => hitters_c w)
      have HX := Lib.hid HX0
      unfold adv lnv at HX ⊢
      unfold hitV at HT
      have hH2 := (hH.alloc (.cells #[.int .i64 0, .int .i64 n, .int .i64 m] 23)).alloc (.cells #[.int .i64 N, .bool L, .slice p ln cap] 48)
      have hidx : ∀ w, (Instr.index 83 hitV (.int .i64 0)).run Tryz.prog w = .ok (.func (.func 61) #[] #[]) w := fun w => by kernel_rfl
      unfold hitV at hidx
      clear hk hN0 hN hr HX0 hH
      generalize hX : (true) = X at HX ⊢
      clear hX
      go_enter Tryz.func35, Tryz.ntmps35
      go_wp2_with fail
      refine wp_region_noPanic ?_
      refine wp_region_held_drew (S := fun w' => (w'.cell? ⟨w.heap.size, 0, none⟩ = some (.int .i64 0) ∧ w'.cell? ⟨w.heap.size, 1, none⟩ = some (.int .i64 n) ∧ w'.cell? ⟨w.heap.size, 2, none⟩ = some (.int .i64 m) ∧ w'.cell? ⟨(w.heap.size + 1), 0, none⟩ = some (.int .i64 N) ∧ w'.cell? ⟨(w.heap.size + 1), 1, none⟩ = some (.bool L) ∧ w'.cell? ⟨(w.heap.size + 1), 2, none⟩ = some (.slice p ln cap)) ∧ Bls w' p ln cap H ∧ Below w.heap.size w w') (by kernel_rfl) ?_ (fun hHeld => ?_)
      · (try dsimp only); exact ⟨by simp [go_sem], (hH2.below (Below.refl _ _).drew (Nat.le_refl _)), (HB.out _ _).drew⟩
      refine wpAnyH_take (i := 0) (v := ?_) rfl (by kernel_rfl) (by kernel_rfl) (by kernel_rfl) (fun _ _ _ h => h) (Or.inl ⟨by kernel_rfl, ?_⟩) (by assumption) ?_
      rotate_left
      · (intro w hSw; (try dsimp only at hSw); (try obtain ⟨⟨c0, c1, c2, c3, c4, c5⟩, hH3, hB⟩ := hSw); go_simp); (try with_reducible rfl)
      try simp only [Act.put, List.getElem_toArray, List.getElem_cons_succ, List.getElem_cons_zero, List.setIfInBounds_toArray, List.set_cons_zero, List.set_cons_succ]
      refine wpAnyH_take (i := 1) (v := ?_) rfl (by kernel_rfl) (by kernel_rfl) (by kernel_rfl) (fun _ _ _ h => h) (Or.inl ⟨by kernel_rfl, ?_⟩) (by assumption) ?_
      rotate_left
      · (intro w hSw; (try dsimp only at hSw); (try obtain ⟨⟨c0, c1, c2, c3, c4, c5⟩, hH3, hB⟩ := hSw); go_simp); (try with_reducible rfl)
      try simp only [Act.put, List.getElem_toArray, List.getElem_cons_succ, List.getElem_cons_zero, List.setIfInBounds_toArray, List.set_cons_zero, List.set_cons_succ]
      refine wpAnyH_ready (rs := [2]) (by kernel_rfl) (by simp) ?_
      refine AllReadyH.cons rfl (fun K hK => ?_) ?_
      rotate_left
      · exact AllReadyH.nil
      go_simp
      have hHn := hHeld
      obtain ⟨⟨c0, c1, c2, c3, c4, c5⟩, hH3, hB⟩ := hHn
      refine (HK.out _).mono ?_
      rintro e wN ⟨rfl, rfl⟩
      clear c0 c1 c2 c3 c4 c5 hH3 hB
      refine hK.out _ _ ?_ (fun hHeld => ?_)
      · (try dsimp only); exact hHeld
      clear hK K
      try simp only [Act.put, List.getElem_toArray, List.getElem_cons_succ, List.getElem_cons_zero, List.setIfInBounds_toArray, List.set_cons_zero, List.set_cons_succ]
      refine wpAnyH_take (i := 3) (v := ?_) rfl (by kernel_rfl) (by kernel_rfl) (by kernel_rfl) (fun _ _ _ h => h) (Or.inl ⟨by kernel_rfl, ?_⟩) (by assumption) ?_
      rotate_left
      · (intro w hSw; (try dsimp only at hSw); (try obtain ⟨⟨c0, c1, c2, c3, c4, c5⟩, hH3, hB⟩ := hSw); go_simp); (try with_reducible rfl)
      try simp only [Act.put, List.getElem_toArray, List.getElem_cons_succ, List.getElem_cons_zero, List.setIfInBounds_toArray, List.set_cons_zero, List.set_cons_succ]
      refine wpAnyH_take (i := 5) (v := ?_) rfl (by kernel_rfl) (by kernel_rfl) (by kernel_rfl) (fun _ _ _ h => h) (Or.inl ⟨by kernel_rfl, ?_⟩) (by assumption) ?_
      rotate_left
      · (intro w hSw; (try dsimp only at hSw); (try obtain ⟨⟨c0, c1, c2, c3, c4, c5⟩, hH3, hB⟩ := hSw); go_simp); (try with_reducible rfl)
      try simp only [Act.put, List.getElem_toArray, List.getElem_cons_succ, List.getElem_cons_zero, List.setIfInBounds_toArray, List.set_cons_zero, List.set_cons_succ]
      refine wpAnyH_take (i := 6) (v := ?_) rfl (by kernel_rfl) (by kernel_rfl) (by kernel_rfl) (fun _ _ _ h => h) (Or.inl ⟨by kernel_rfl, ?_⟩) (by assumption) ?_
      rotate_left
      · (intro w hSw; (try dsimp only at hSw); (try obtain ⟨⟨c0, c1, c2, c3, c4, c5⟩, hH3, hB⟩ := hSw); go_simp); (try with_reducible rfl)
      try simp only [Act.put, List.getElem_toArray, List.getElem_cons_succ, List.getElem_cons_zero, List.setIfInBounds_toArray, List.set_cons_zero, List.set_cons_succ]
      refine wpAnyH_take (i := 8) (v := ?_) rfl (by kernel_rfl) (by kernel_rfl) (by kernel_rfl) (fun _ _ _ h => h) (Or.inl ⟨by kernel_rfl, ?_⟩) (by assumption) ?_
      rotate_left
      · (intro w hSw; (try dsimp only at hSw); (try obtain ⟨⟨c0, c1, c2, c3, c4, c5⟩, hH3, hB⟩ := hSw); go_simp); (try with_reducible rfl)
      try simp only [Act.put, List.getElem_toArray, List.getElem_cons_succ, List.getElem_cons_zero, List.setIfInBounds_toArray, List.set_cons_zero, List.set_cons_succ]
      refine wpAnyH_take (i := 9) (v := ?_) rfl (by kernel_rfl) (by kernel_rfl) (by kernel_rfl) (fun _ _ _ h => h) (Or.inl ⟨by kernel_rfl, ?_⟩) (by assumption) ?_
      rotate_left
      · (intro w hSw; (try dsimp only at hSw); (try obtain ⟨⟨c0, c1, c2, c3, c4, c5⟩, hH3, hB⟩ := hSw); go_simp); (try with_reducible rfl)
      try simp only [Act.put, List.getElem_toArray, List.getElem_cons_succ, List.getElem_cons_zero, List.setIfInBounds_toArray, List.set_cons_zero, List.set_cons_succ]
      refine wpAnyH_ready (rs := [4]) (by kernel_rfl) (by simp) ?_
      refine AllReadyH.cons rfl (fun K hK => ?_) ?_
      rotate_left
      · exact AllReadyH.nil
      go_simp
      have hHn := hHeld
      obtain ⟨⟨c0, c1, c2, c3, c4, c5⟩, hH3, hB⟩ := hHn
      refine (HT.out _).mono ?_
      rintro e wN ⟨rfl, hBN⟩
      clear c0 c1 c2 c3 c4 c5 hH3 hB
      refine hK.out _ _ ?_ (fun hHeld => ?_)
      · (try dsimp only); obtain ⟨⟨c0, c1, c2, c3, c4, c5⟩, hH3, hB⟩ := hHeld; exact ⟨⟨cell_keep hBN c0, cell_keep hBN c1, cell_keep hBN c2, cell_keep hBN c3, cell_keep hBN c4, cell_keep hBN c5⟩, hH3.below hBN (Nat.le_refl _), hB.trans (hBN.mono hB.size)⟩
      clear hK K
      try simp only [Act.put, List.getElem_toArray, List.getElem_cons_succ, List.getElem_cons_zero, List.setIfInBounds_toArray, List.set_cons_zero, List.set_cons_succ]
      refine wpAnyH_take (i := 7) (v := ?_) rfl (by kernel_rfl) (by kernel_rfl) (by kernel_rfl) (fun _ _ _ h => h) (Or.inl ⟨by kernel_rfl, ?_⟩) (by assumption) ?_
      rotate_left
      · (intro w hSw; (try dsimp only at hSw); (try obtain ⟨⟨c0, c1, c2, c3, c4, c5⟩, hH3, hB⟩ := hSw); go_simp); (try with_reducible rfl)
      try simp only [Act.put, List.getElem_toArray, List.getElem_cons_succ, List.getElem_cons_zero, List.setIfInBounds_toArray, List.set_cons_zero, List.set_cons_succ]
      refine wpAnyH_ready (rs := [10]) (by kernel_rfl) (by simp) ?_
      refine AllReadyH.cons rfl (fun K hK => ?_) ?_
      rotate_left
      · exact AllReadyH.nil
      go_simp
      have hHn := hHeld
      obtain ⟨⟨c0, c1, c2, c3, c4, c5⟩, hH3, hB⟩ := hHn
      refine (HX.out _ hH3).mono ?_
      rintro e wN ⟨rfl, hBN⟩
      clear c0 c1 c2 c3 c4 c5 hH3 hB
      refine hK.out _ _ ?_ (fun hHeld => ?_)
      · (try dsimp only); obtain ⟨⟨c0, c1, c2, c3, c4, c5⟩, hH3, hB⟩ := hHeld; exact ⟨⟨cell_keep hBN c0, cell_keep hBN c1, cell_keep hBN c2, cell_keep hBN c3, cell_keep hBN c4, cell_keep hBN c5⟩, hH3.below hBN (Nat.le_refl _), hB.trans (hBN.mono hB.size)⟩
      clear hK K
      try simp only [Act.put, List.getElem_toArray, List.getElem_cons_succ, List.getElem_cons_zero, List.setIfInBounds_toArray, List.set_cons_zero, List.set_cons_succ]
      refine wpAnyH_take (i := 11) (v := ?_) rfl (by kernel_rfl) (by kernel_rfl) (by kernel_rfl) (fun _ _ _ h => h) (Or.inl ⟨by kernel_rfl, ?_⟩) (by assumption) ?_
      rotate_left
      · (intro w hSw; (try dsimp only at hSw); (try obtain ⟨⟨c0, c1, c2, c3, c4, c5⟩, hH3, hB⟩ := hSw); go_simp); (try with_reducible rfl)
      try simp only [Act.put, List.getElem_toArray, List.getElem_cons_succ, List.getElem_cons_zero, List.setIfInBounds_toArray, List.set_cons_zero, List.set_cons_succ]
      refine wpAnyH_take (i := 12) (v := ?_) rfl (by kernel_rfl) (by kernel_rfl) (by kernel_rfl) (fun _ _ _ h => h) (Or.inl ⟨by kernel_rfl, ?_⟩) (by assumption) ?_
      rotate_left
      · (intro w hSw; (try dsimp only at hSw); (try obtain ⟨⟨c0, c1, c2, c3, c4, c5⟩, hH3, hB⟩ := hSw); go_simp); (try with_reducible rfl)
      try simp only [Act.put, List.getElem_toArray, List.getElem_cons_succ, List.getElem_cons_zero, List.setIfInBounds_toArray, List.set_cons_zero, List.set_cons_succ]
      refine wpAnyH_done (by kernel_rfl) ?_ _
      refine NoPanic.normal ?_
      go_wp2
      go_ret
      exact ⟨rfl, hHeld.2.2⟩
    · obtain ⟨k, n, m⟩ := a
      obtain rfl : k = 1 := q
      have HX0 := fun w (h : Bls w p ln cap H) => hit3_c ⟨1, n, m⟩ N L (.slice p ln cap) w
      rw [show hitA ⟨1, n, m⟩ N L H = (decide (N = n)) from rfl]
      have HK := Lib.hid (fun w => iskind_c 1 w)
      rw [show (decide ((0 : Int) ≤ 1) && decide ((1 : Int) < 7)) = true from rfl] at HK
      have HB := Lib.hid (Below.al2 w)
      have HT := Lib.hid (fun w => hitters_c w)
      have HX := Lib.hid HX0
      unfold adv lnv at HX ⊢
      unfold hitV at HT
      have hH2 := (hH.alloc (.cells #[.int .i64 1, .int .i64 n, .int .i64 m] 23)).alloc (.cells #[.int .i64 N, .bool L, .slice p ln cap] 48)
      have hidx : ∀ w, (Instr.index 83 hitV (.int .i64 1)).run Tryz.prog w = .ok (.func (.func 62) #[] #[]) w := fun w => by kernel_rfl
      unfold hitV at hidx
      clear hk hN0 hN hr HX0 hH
      generalize hX : (decide (N = n)) = X at HX ⊢
      clear hX
      go_enter Tryz.func35, Tryz.ntmps35
      go_wp2_with fail
      refine wp_region_noPanic ?_
      refine wp_region_held_drew (S := fun w' => (w'.cell? ⟨w.heap.size, 0, none⟩ = some (.int .i64 1) ∧ w'.cell? ⟨w.heap.size, 1, none⟩ = some (.int .i64 n) ∧ w'.cell? ⟨w.heap.size, 2, none⟩ = some (.int .i64 m) ∧ w'.cell? ⟨(w.heap.size + 1), 0, none⟩ = some (.int .i64 N) ∧ w'.cell? ⟨(w.heap.size + 1), 1, none⟩ = some (.bool L) ∧ w'.cell? ⟨(w.heap.size + 1), 2, none⟩ = some (.slice p ln cap)) ∧ Bls w' p ln cap H ∧ Below w.heap.size w w') (by kernel_rfl) ?_ (fun hHeld => ?_)
      · (try dsimp only); exact ⟨by simp [go_sem], (hH2.below (Below.refl _ _).drew (Nat.le_refl _)), (HB.out _ _).drew⟩
      refine wpAnyH_take (i := 0) (v := ?_) rfl (by kernel_rfl) (by kernel_rfl) (by kernel_rfl) (fun _ _ _ h => h) (Or.inl ⟨by kernel_rfl, ?_⟩) (by assumption) ?_
      rotate_left
      · (intro w hSw; (try dsimp only at hSw); (try obtain ⟨⟨c0, c1, c2, c3, c4, c5⟩, hH3, hB⟩ := hSw); go_simp); (try with_reducible rfl)
      try simp only [Act.put, List.getElem_toArray, List.getElem_cons_succ, List.getElem_cons_zero, List.setIfInBounds_toArray, List.set_cons_zero, List.set_cons_succ]
      refine wpAnyH_take (i := 1) (v := ?_) rfl (by kernel_rfl) (by kernel_rfl) (by kernel_rfl) (fun _ _ _ h => h) (Or.inl ⟨by kernel_rfl, ?_⟩) (by assumption) ?_
      rotate_left
      · (intro w hSw; (try dsimp only at hSw); (try obtain ⟨⟨c0, c1, c2, c3, c4, c5⟩, hH3, hB⟩ := hSw); go_simp); (try with_reducible rfl)
      try simp only [Act.put, List.getElem_toArray, List.getElem_cons_succ, List.getElem_cons_zero, List.setIfInBounds_toArray, List.set_cons_zero, List.set_cons_succ]
      refine wpAnyH_ready (rs := [2]) (by kernel_rfl) (by simp) ?_
      refine AllReadyH.cons rfl (fun K hK => ?_) ?_
      rotate_left
      · exact AllReadyH.nil
      go_simp
      have hHn := hHeld
      obtain ⟨⟨c0, c1, c2, c3, c4, c5⟩, hH3, hB⟩ := hHn
      refine (HK.out _).mono ?_
      rintro e wN ⟨rfl, rfl⟩
      clear c0 c1 c2 c3 c4 c5 hH3 hB
      refine hK.out _ _ ?_ (fun hHeld => ?_)
      · (try dsimp only); exact hHeld
      clear hK K
      try simp only [Act.put, List.getElem_toArray, List.getElem_cons_succ, List.getElem_cons_zero, List.setIfInBounds_toArray, List.set_cons_zero, List.set_cons_succ]
      refine wpAnyH_take (i := 3) (v := ?_) rfl (by kernel_rfl) (by kernel_rfl) (by kernel_rfl) (fun _ _ _ h => h) (Or.inl ⟨by kernel_rfl, ?_⟩) (by assumption) ?_
      rotate_left
      · (intro w hSw; (try dsimp only at hSw); (try obtain ⟨⟨c0, c1, c2, c3, c4, c5⟩, hH3, hB⟩ := hSw); go_simp); (try with_reducible rfl)
      try simp only [Act.put, List.getElem_toArray, List.getElem_cons_succ, List.getElem_cons_zero, List.setIfInBounds_toArray, List.set_cons_zero, List.set_cons_succ]
      refine wpAnyH_take (i := 5) (v := ?_) rfl (by kernel_rfl) (by kernel_rfl) (by kernel_rfl) (fun _ _ _ h => h) (Or.inl ⟨by kernel_rfl, ?_⟩) (by assumption) ?_
      rotate_left
      · (intro w hSw; (try dsimp only at hSw); (try obtain ⟨⟨c0, c1, c2, c3, c4, c5⟩, hH3, hB⟩ := hSw); go_simp); (try with_reducible rfl)
      try simp only [Act.put, List.getElem_toArray, List.getElem_cons_succ, List.getElem_cons_zero, List.setIfInBounds_toArray, List.set_cons_zero, List.set_cons_succ]
      refine wpAnyH_take (i := 6) (v := ?_) rfl (by kernel_rfl) (by kernel_rfl) (by kernel_rfl) (fun _ _ _ h => h) (Or.inl ⟨by kernel_rfl, ?_⟩) (by assumption) ?_
      rotate_left
      · (intro w hSw; (try dsimp only at hSw); (try obtain ⟨⟨c0, c1, c2, c3, c4, c5⟩, hH3, hB⟩ := hSw); go_simp); (try with_reducible rfl)
      try simp only [Act.put, List.getElem_toArray, List.getElem_cons_succ, List.getElem_cons_zero, List.setIfInBounds_toArray, List.set_cons_zero, List.set_cons_succ]
      refine wpAnyH_take (i := 8) (v := ?_) rfl (by kernel_rfl) (by kernel_rfl) (by kernel_rfl) (fun _ _ _ h => h) (Or.inl ⟨by kernel_rfl, ?_⟩) (by assumption) ?_
      rotate_left
      · (intro w hSw; (try dsimp only at hSw); (try obtain ⟨⟨c0, c1, c2, c3, c4, c5⟩, hH3, hB⟩ := hSw); go_simp); (try with_reducible rfl)
      try simp only [Act.put, List.getElem_toArray, List.getElem_cons_succ, List.getElem_cons_zero, List.setIfInBounds_toArray, List.set_cons_zero, List.set_cons_succ]
      refine wpAnyH_take (i := 9) (v := ?_) rfl (by kernel_rfl) (by kernel_rfl) (by kernel_rfl) (fun _ _ _ h => h) (Or.inl ⟨by kernel_rfl, ?_⟩) (by assumption) ?_
      rotate_left
      · (intro w hSw; (try dsimp only at hSw); (try obtain ⟨⟨c0, c1, c2, c3, c4, c5⟩, hH3, hB⟩ := hSw); go_simp); (try with_reducible rfl)
      try simp only [Act.put, List.getElem_toArray, List.getElem_cons_succ, List.getElem_cons_zero, List.setIfInBounds_toArray, List.set_cons_zero, List.set_cons_succ]
      refine wpAnyH_ready (rs := [4]) (by kernel_rfl) (by simp) ?_
      refine AllReadyH.cons rfl (fun K hK => ?_) ?_
      rotate_left
      · exact AllReadyH.nil
      go_simp
      have hHn := hHeld
      obtain ⟨⟨c0, c1, c2, c3, c4, c5⟩, hH3, hB⟩ := hHn
      refine (HT.out _).mono ?_
      rintro e wN ⟨rfl, hBN⟩
      clear c0 c1 c2 c3 c4 c5 hH3 hB
      refine hK.out _ _ ?_ (fun hHeld => ?_)
      · (try dsimp only); obtain ⟨⟨c0, c1, c2, c3, c4, c5⟩, hH3, hB⟩ := hHeld; exact ⟨⟨cell_keep hBN c0, cell_keep hBN c1, cell_keep hBN c2, cell_keep hBN c3, cell_keep hBN c4, cell_keep hBN c5⟩, hH3.below hBN (Nat.le_refl _), hB.trans (hBN.mono hB.size)⟩
      clear hK K
      try simp only [Act.put, List.getElem_toArray, List.getElem_cons_succ, List.getElem_cons_zero, List.setIfInBounds_toArray, List.set_cons_zero, List.set_cons_succ]
      refine wpAnyH_take (i := 7) (v := ?_) rfl (by kernel_rfl) (by kernel_rfl) (by kernel_rfl) (fun _ _ _ h => h) (Or.inl ⟨by kernel_rfl, ?_⟩) (by assumption) ?_
      rotate_left
      · (intro w hSw; (try dsimp only at hSw); (try obtain ⟨⟨c0, c1, c2, c3, c4, c5⟩, hH3, hB⟩ := hSw); go_simp); (try with_reducible rfl)
      try simp only [Act.put, List.getElem_toArray, List.getElem_cons_succ, List.getElem_cons_zero, List.setIfInBounds_toArray, List.set_cons_zero, List.set_cons_succ]
      refine wpAnyH_ready (rs := [10]) (by kernel_rfl) (by simp) ?_
      refine AllReadyH.cons rfl (fun K hK => ?_) ?_
      rotate_left
      · exact AllReadyH.nil
      go_simp
      have hHn := hHeld
      obtain ⟨⟨c0, c1, c2, c3, c4, c5⟩, hH3, hB⟩ := hHn
      refine (HX.out _ hH3).mono ?_
      rintro e wN ⟨rfl, hBN⟩
      clear c0 c1 c2 c3 c4 c5 hH3 hB
      refine hK.out _ _ ?_ (fun hHeld => ?_)
      · (try dsimp only); obtain ⟨⟨c0, c1, c2, c3, c4, c5⟩, hH3, hB⟩ := hHeld; exact ⟨⟨cell_keep hBN c0, cell_keep hBN c1, cell_keep hBN c2, cell_keep hBN c3, cell_keep hBN c4, cell_keep hBN c5⟩, hH3.below hBN (Nat.le_refl _), hB.trans (hBN.mono hB.size)⟩
      clear hK K
      try simp only [Act.put, List.getElem_toArray, List.getElem_cons_succ, List.getElem_cons_zero, List.setIfInBounds_toArray, List.set_cons_zero, List.set_cons_succ]
      refine wpAnyH_take (i := 11) (v := ?_) rfl (by kernel_rfl) (by kernel_rfl) (by kernel_rfl) (fun _ _ _ h => h) (Or.inl ⟨by kernel_rfl, ?_⟩) (by assumption) ?_
      rotate_left
      · (intro w hSw; (try dsimp only at hSw); (try obtain ⟨⟨c0, c1, c2, c3, c4, c5⟩, hH3, hB⟩ := hSw); go_simp); (try with_reducible rfl)
      try simp only [Act.put, List.getElem_toArray, List.getElem_cons_succ, List.getElem_cons_zero, List.setIfInBounds_toArray, List.set_cons_zero, List.set_cons_succ]
      refine wpAnyH_take (i := 12) (v := ?_) rfl (by kernel_rfl) (by kernel_rfl) (by kernel_rfl) (fun _ _ _ h => h) (Or.inl ⟨by kernel_rfl, ?_⟩) (by assumption) ?_
      rotate_left
      · (intro w hSw; (try dsimp only at hSw); (try obtain ⟨⟨c0, c1, c2, c3, c4, c5⟩, hH3, hB⟩ := hSw); go_simp); (try with_reducible rfl)
      try simp only [Act.put, List.getElem_toArray, List.getElem_cons_succ, List.getElem_cons_zero, List.setIfInBounds_toArray, List.set_cons_zero, List.set_cons_succ]
      refine wpAnyH_done (by kernel_rfl) ?_ _
      refine NoPanic.normal ?_
      go_wp2
      go_ret
      exact ⟨rfl, hHeld.2.2⟩
    · obtain ⟨k, n, m⟩ := a
      obtain rfl : k = 2 := q
      have HX0 := fun w (h : Bls w p ln cap H) => hit4_c ⟨2, n, m⟩ N L (.slice p ln cap) w
      rw [show hitA ⟨2, n, m⟩ N L H = (L) from rfl]
      have HK := Lib.hid (fun w => iskind_c 2 w)
      rw [show (decide ((0 : Int) ≤ 2) && decide ((2 : Int) < 7)) = true from rfl] at HK
      have HB := Lib.hid (Below.al2 w)
      have HT := Lib.hid (fun w => hitters_c w)
      have HX := Lib.hid HX0
      unfold adv lnv at HX ⊢
      unfold hitV at HT
      have hH2 := (hH.alloc (.cells #[.int .i64 2, .int .i64 n, .int .i64 m] 23)).alloc (.cells #[.int .i64 N, .bool L, .slice p ln cap] 48)
      have hidx : ∀ w, (Instr.index 83 hitV (.int .i64 2)).run Tryz.prog w = .ok (.func (.func 63) #[] #[]) w := fun w => by kernel_rfl
      unfold hitV at hidx
      clear hk hN0 hN hr HX0 hH
      go_enter Tryz.func35, Tryz.ntmps35
      go_wp2_with fail
      refine wp_region_noPanic ?_
      refine wp_region_held_drew (S := fun w' => (w'.cell? ⟨w.heap.size, 0, none⟩ = some (.int .i64 2) ∧ w'.cell? ⟨w.heap.size, 1, none⟩ = some (.int .i64 n) ∧ w'.cell? ⟨w.heap.size, 2, none⟩ = some (.int .i64 m) ∧ w'.cell? ⟨(w.heap.size + 1), 0, none⟩ = some (.int .i64 N) ∧ w'.cell? ⟨(w.heap.size + 1), 1, none⟩ = some (.bool L) ∧ w'.cell? ⟨(w.heap.size + 1), 2, none⟩ = some (.slice p ln cap)) ∧ Bls w' p ln cap H ∧ Below w.heap.size w w') (by kernel_rfl) ?_ (fun hHeld => ?_)
      · (try dsimp only); exact ⟨by simp [go_sem], (hH2.below (Below.refl _ _).drew (Nat.le_refl _)), (HB.out _ _).drew⟩
      refine wpAnyH_take (i := 0) (v := ?_) rfl (by kernel_rfl) (by kernel_rfl) (by kernel_rfl) (fun _ _ _ h => h) (Or.inl ⟨by kernel_rfl, ?_⟩) (by assumption) ?_
      rotate_left
      · (intro w hSw; (try dsimp only at hSw); (try obtain ⟨⟨c0, c1, c2, c3, c4, c5⟩, hH3, hB⟩ := hSw); go_simp); (try with_reducible rfl)
      try simp only [Act.put, List.getElem_toArray, List.getElem_cons_succ, List.getElem_cons_zero, List.setIfInBounds_toArray, List.set_cons_zero, List.set_cons_succ]
      refine wpAnyH_take (i := 1) (v := ?_) rfl (by kernel_rfl) (by kernel_rfl) (by kernel_rfl) (fun _ _ _ h => h) (Or.inl ⟨by kernel_rfl, ?_⟩) (by assumption) ?_
      rotate_left
      · (intro w hSw; (try dsimp only at hSw); (try obtain ⟨⟨c0, c1, c2, c3, c4, c5⟩, hH3, hB⟩ := hSw); go_simp); (try with_reducible rfl)
      try simp only [Act.put, List.getElem_toArray, List.getElem_cons_succ, List.getElem_cons_zero, List.setIfInBounds_toArray, List.set_cons_zero, List.set_cons_succ]
      refine wpAnyH_ready (rs := [2]) (by kernel_rfl) (by simp) ?_
      refine AllReadyH.cons rfl (fun K hK => ?_) ?_
      rotate_left
      · exact AllReadyH.nil
      go_simp
      have hHn := hHeld
      obtain ⟨⟨c0, c1, c2, c3, c4, c5⟩, hH3, hB⟩ := hHn
      refine (HK.out _).mono ?_
      rintro e wN ⟨rfl, rfl⟩
      clear c0 c1 c2 c3 c4 c5 hH3 hB
      refine hK.out _ _ ?_ (fun hHeld => ?_)
      · (try dsimp only); exact hHeld
      clear hK K
      try simp only [Act.put, List.getElem_toArray, List.getElem_cons_succ, List.getElem_cons_zero, List.setIfInBounds_toArray, List.set_cons_zero, List.set_cons_succ]
      refine wpAnyH_take (i := 3) (v := ?_) rfl (by kernel_rfl) (by kernel_rfl) (by kernel_rfl) (fun _ _ _ h => h) (Or.inl ⟨by kernel_rfl, ?_⟩) (by assumption) ?_
      rotate_left
      · (intro w hSw; (try dsimp only at hSw); (try obtain ⟨⟨c0, c1, c2, c3, c4, c5⟩, hH3, hB⟩ := hSw); go_simp); (try with_reducible rfl)
      try simp only [Act.put, List.getElem_toArray, List.getElem_cons_succ, List.getElem_cons_zero, List.setIfInBounds_toArray, List.set_cons_zero, List.set_cons_succ]
      refine wpAnyH_take (i := 5) (v := ?_) rfl (by kernel_rfl) (by kernel_rfl) (by kernel_rfl) (fun _ _ _ h => h) (Or.inl ⟨by kernel_rfl, ?_⟩) (by assumption) ?_
      rotate_left
      · (intro w hSw; (try dsimp only at hSw); (try obtain ⟨⟨c0, c1, c2, c3, c4, c5⟩, hH3, hB⟩ := hSw); go_simp); (try with_reducible rfl)
      try simp only [Act.put, List.getElem_toArray, List.getElem_cons_succ, List.getElem_cons_zero, List.setIfInBounds_toArray, List.set_cons_zero, List.set_cons_succ]
      refine wpAnyH_take (i := 6) (v := ?_) rfl (by kernel_rfl) (by kernel_rfl) (by kernel_rfl) (fun _ _ _ h => h) (Or.inl ⟨by kernel_rfl, ?_⟩) (by assumption) ?_
      rotate_left
      · (intro w hSw; (try dsimp only at hSw); (try obtain ⟨⟨c0, c1, c2, c3, c4, c5⟩, hH3, hB⟩ := hSw); go_simp); (try with_reducible rfl)
      try simp only [Act.put, List.getElem_toArray, List.getElem_cons_succ, List.getElem_cons_zero, List.setIfInBounds_toArray, List.set_cons_zero, List.set_cons_succ]
      refine wpAnyH_take (i := 8) (v := ?_) rfl (by kernel_rfl) (by kernel_rfl) (by kernel_rfl) (fun _ _ _ h => h) (Or.inl ⟨by kernel_rfl, ?_⟩) (by assumption) ?_
      rotate_left
      · (intro w hSw; (try dsimp only at hSw); (try obtain ⟨⟨c0, c1, c2, c3, c4, c5⟩, hH3, hB⟩ := hSw); go_simp); (try with_reducible rfl)
      try simp only [Act.put, List.getElem_toArray, List.getElem_cons_succ, List.getElem_cons_zero, List.setIfInBounds_toArray, List.set_cons_zero, List.set_cons_succ]
      refine wpAnyH_take (i := 9) (v := ?_) rfl (by kernel_rfl) (by kernel_rfl) (by kernel_rfl) (fun _ _ _ h => h) (Or.inl ⟨by kernel_rfl, ?_⟩) (by assumption) ?_
      rotate_left
      · (intro w hSw; (try dsimp only at hSw); (try obtain ⟨⟨c0, c1, c2, c3, c4, c5⟩, hH3, hB⟩ := hSw); go_simp); (try with_reducible rfl)
      try simp only [Act.put, List.getElem_toArray, List.getElem_cons_succ, List.getElem_cons_zero, List.setIfInBounds_toArray, List.set_cons_zero, List.set_cons_succ]
      refine wpAnyH_ready (rs := [4]) (by kernel_rfl) (by simp) ?_
      refine AllReadyH.cons rfl (fun K hK => ?_) ?_
      rotate_left
      · exact AllReadyH.nil
      go_simp
      have hHn := hHeld
      obtain ⟨⟨c0, c1, c2, c3, c4, c5⟩, hH3, hB⟩ := hHn
      refine (HT.out _).mono ?_
      rintro e wN ⟨rfl, hBN⟩
      clear c0 c1 c2 c3 c4 c5 hH3 hB
      refine hK.out _ _ ?_ (fun hHeld => ?_)
      · (try dsimp only); obtain ⟨⟨c0, c1, c2, c3, c4, c5⟩, hH3, hB⟩ := hHeld; exact ⟨⟨cell_keep hBN c0, cell_keep hBN c1, cell_keep hBN c2, cell_keep hBN c3, cell_keep hBN c4, cell_keep hBN c5⟩, hH3.below hBN (Nat.le_refl _), hB.trans (hBN.mono hB.size)⟩
      clear hK K
      try simp only [Act.put, List.getElem_toArray, List.getElem_cons_succ, List.getElem_cons_zero, List.setIfInBounds_toArray, List.set_cons_zero, List.set_cons_succ]
      refine wpAnyH_take (i := 7) (v := ?_) rfl (by kernel_rfl) (by kernel_rfl) (by kernel_rfl) (fun _ _ _ h => h) (Or.inl ⟨by kernel_rfl, ?_⟩) (by assumption) ?_
      rotate_left
      · (intro w hSw; (try dsimp only at hSw); (try obtain ⟨⟨c0, c1, c2, c3, c4, c5⟩, hH3, hB⟩ := hSw); go_simp); (try with_reducible rfl)
      try simp only [Act.put, List.getElem_toArray, List.getElem_cons_succ, List.getElem_cons_zero, List.setIfInBounds_toArray, List.set_cons_zero, List.set_cons_succ]
      refine wpAnyH_ready (rs := [10]) (by kernel_rfl) (by simp) ?_
      refine AllReadyH.cons rfl (fun K hK => ?_) ?_
      rotate_left
      · exact AllReadyH.nil
      go_simp
      have hHn := hHeld
      obtain ⟨⟨c0, c1, c2, c3, c4, c5⟩, hH3, hB⟩ := hHn
      refine (HX.out _ hH3).mono ?_
      rintro e wN ⟨rfl, hBN⟩
      clear c0 c1 c2 c3 c4 c5 hH3 hB
      refine hK.out _ _ ?_ (fun hHeld => ?_)
      · (try dsimp only); obtain ⟨⟨c0, c1, c2, c3, c4, c5⟩, hH3, hB⟩ := hHeld; exact ⟨⟨cell_keep hBN c0, cell_keep hBN c1, cell_keep hBN c2, cell_keep hBN c3, cell_keep hBN c4, cell_keep hBN c5⟩, hH3.below hBN (Nat.le_refl _), hB.trans (hBN.mono hB.size)⟩
      clear hK K
      try simp only [Act.put, List.getElem_toArray, List.getElem_cons_succ, List.getElem_cons_zero, List.setIfInBounds_toArray, List.set_cons_zero, List.set_cons_succ]
      refine wpAnyH_take (i := 11) (v := ?_) rfl (by kernel_rfl) (by kernel_rfl) (by kernel_rfl) (fun _ _ _ h => h) (Or.inl ⟨by kernel_rfl, ?_⟩) (by assumption) ?_
      rotate_left
      · (intro w hSw; (try dsimp only at hSw); (try obtain ⟨⟨c0, c1, c2, c3, c4, c5⟩, hH3, hB⟩ := hSw); go_simp); (try with_reducible rfl)
      try simp only [Act.put, List.getElem_toArray, List.getElem_cons_succ, List.getElem_cons_zero, List.setIfInBounds_toArray, List.set_cons_zero, List.set_cons_succ]
      refine wpAnyH_take (i := 12) (v := ?_) rfl (by kernel_rfl) (by kernel_rfl) (by kernel_rfl) (fun _ _ _ h => h) (Or.inl ⟨by kernel_rfl, ?_⟩) (by assumption) ?_
      rotate_left
      · (intro w hSw; (try dsimp only at hSw); (try obtain ⟨⟨c0, c1, c2, c3, c4, c5⟩, hH3, hB⟩ := hSw); go_simp); (try with_reducible rfl)
      try simp only [Act.put, List.getElem_toArray, List.getElem_cons_succ, List.getElem_cons_zero, List.setIfInBounds_toArray, List.set_cons_zero, List.set_cons_succ]
      refine wpAnyH_done (by kernel_rfl) ?_ _
      refine NoPanic.normal ?_
      go_wp2
      go_ret
      exact ⟨rfl, hHeld.2.2⟩
    · obtain ⟨k, n, m⟩ := a
      obtain rfl : k = 3 := q
      have HX0 := fun w (h : Bls w p ln cap H) => reached_c ⟨3, n, m⟩ N L (.slice p ln cap) (hk rfl).1 (hk rfl).2.1 (hk rfl).2.2 hN0 hN w
      rw [show hitA ⟨3, n, m⟩ N L H = (reachB ⟨3, n, m⟩ N) from rfl]
      have HK := Lib.hid (fun w => iskind_c 3 w)
      rw [show (decide ((0 : Int) ≤ 3) && decide ((3 : Int) < 7)) = true from rfl] at HK
      have HB := Lib.hid (Below.al2 w)
      have HT := Lib.hid (fun w => hitters_c w)
      have HX := Lib.hid HX0
      unfold adv lnv at HX ⊢
      unfold hitV at HT
      have hH2 := (hH.alloc (.cells #[.int .i64 3, .int .i64 n, .int .i64 m] 23)).alloc (.cells #[.int .i64 N, .bool L, .slice p ln cap] 48)
      have hidx : ∀ w, (Instr.index 83 hitV (.int .i64 3)).run Tryz.prog w = .ok (.func (.func 64) #[] #[]) w := fun w => by kernel_rfl
      unfold hitV at hidx
      clear hk hN0 hN hr HX0 hH
      generalize hX : (reachB ⟨3, n, m⟩ N) = X at HX ⊢
      clear hX
      go_enter Tryz.func35, Tryz.ntmps35
      go_wp2_with fail
      refine wp_region_noPanic ?_
      refine wp_region_held_drew (S := fun w' => (w'.cell? ⟨w.heap.size, 0, none⟩ = some (.int .i64 3) ∧ w'.cell? ⟨w.heap.size, 1, none⟩ = some (.int .i64 n) ∧ w'.cell? ⟨w.heap.size, 2, none⟩ = some (.int .i64 m) ∧ w'.cell? ⟨(w.heap.size + 1), 0, none⟩ = some (.int .i64 N) ∧ w'.cell? ⟨(w.heap.size + 1), 1, none⟩ = some (.bool L) ∧ w'.cell? ⟨(w.heap.size + 1), 2, none⟩ = some (.slice p ln cap)) ∧ Bls w' p ln cap H ∧ Below w.heap.size w w') (by kernel_rfl) ?_ (fun hHeld => ?_)
      · (try dsimp only); exact ⟨by simp [go_sem], (hH2.below (Below.refl _ _).drew (Nat.le_refl _)), (HB.out _ _).drew⟩
      refine wpAnyH_take (i := 0) (v := ?_) rfl (by kernel_rfl) (by kernel_rfl) (by kernel_rfl) (fun _ _ _ h => h) (Or.inl ⟨by kernel_rfl, ?_⟩) (by assumption) ?_
      rotate_left
      · (intro w hSw; (try dsimp only at hSw); (try obtain ⟨⟨c0, c1, c2, c3, c4, c5⟩, hH3, hB⟩ := hSw); go_simp); (try with_reducible rfl)
      try simp only [Act.put, List.getElem_toArray, List.getElem_cons_succ, List.getElem_cons_zero, List.setIfInBounds_toArray, List.set_cons_zero, List.set_cons_succ]
      refine wpAnyH_take (i := 1) (v := ?_) rfl (by kernel_rfl) (by kernel_rfl) (by kernel_rfl) (fun _ _ _ h => h) (Or.inl ⟨by kernel_rfl, ?_⟩) (by assumption) ?_
      rotate_left
      · (intro w hSw; (try dsimp only at hSw); (try obtain ⟨⟨c0, c1, c2, c3, c4, c5⟩, hH3, hB⟩ := hSw); go_simp); (try with_reducible rfl)
      try simp only [Act.put, List.getElem_toArray, List.getElem_cons_succ, List.getElem_cons_zero, List.setIfInBounds_toArray, List.set_cons_zero, List.set_cons_succ]
      refine wpAnyH_ready (rs := [2]) (by kernel_rfl) (by simp) ?_
      refine AllReadyH.cons rfl (fun K hK => ?_) ?_
      rotate_left
      · exact AllReadyH.nil
      go_simp
      have hHn := hHeld
      obtain ⟨⟨c0, c1, c2, c3, c4, c5⟩, hH3, hB⟩ := hHn
      refine (HK.out _).mono ?_
      rintro e wN ⟨rfl, rfl⟩
      clear c0 c1 c2 c3 c4 c5 hH3 hB
      refine hK.out _ _ ?_ (fun hHeld => ?_)
      · (try dsimp only); exact hHeld
      clear hK K
      try simp only [Act.put, List.getElem_toArray, List.getElem_cons_succ, List.getElem_cons_zero, List.setIfInBounds_toArray, List.set_cons_zero, List.set_cons_succ]
      refine wpAnyH_take (i := 3) (v := ?_) rfl (by kernel_rfl) (by kernel_rfl) (by kernel_rfl) (fun _ _ _ h => h) (Or.inl ⟨by kernel_rfl, ?_⟩) (by assumption) ?_
      rotate_left
      · (intro w hSw; (try dsimp only at hSw); (try obtain ⟨⟨c0, c1, c2, c3, c4, c5⟩, hH3, hB⟩ := hSw); go_simp); (try with_reducible rfl)
      try simp only [Act.put, List.getElem_toArray, List.getElem_cons_succ, List.getElem_cons_zero, List.setIfInBounds_toArray, List.set_cons_zero, List.set_cons_succ]
      refine wpAnyH_take (i := 5) (v := ?_) rfl (by kernel_rfl) (by kernel_rfl) (by kernel_rfl) (fun _ _ _ h => h) (Or.inl ⟨by kernel_rfl, ?_⟩) (by assumption) ?_
      rotate_left
      · (intro w hSw; (try dsimp only at hSw); (try obtain ⟨⟨c0, c1, c2, c3, c4, c5⟩, hH3, hB⟩ := hSw); go_simp); (try with_reducible rfl)
      try simp only [Act.put, List.getElem_toArray, List.getElem_cons_succ, List.getElem_cons_zero, List.setIfInBounds_toArray, List.set_cons_zero, List.set_cons_succ]
      refine wpAnyH_take (i := 6) (v := ?_) rfl (by kernel_rfl) (by kernel_rfl) (by kernel_rfl) (fun _ _ _ h => h) (Or.inl ⟨by kernel_rfl, ?_⟩) (by assumption) ?_
      rotate_left
      · (intro w hSw; (try dsimp only at hSw); (try obtain ⟨⟨c0, c1, c2, c3, c4, c5⟩, hH3, hB⟩ := hSw); go_simp); (try with_reducible rfl)
      try simp only [Act.put, List.getElem_toArray, List.getElem_cons_succ, List.getElem_cons_zero, List.setIfInBounds_toArray, List.set_cons_zero, List.set_cons_succ]
      refine wpAnyH_take (i := 8) (v := ?_) rfl (by kernel_rfl) (by kernel_rfl) (by kernel_rfl) (fun _ _ _ h => h) (Or.inl ⟨by kernel_rfl, ?_⟩) (by assumption) ?_
      rotate_left
      · (intro w hSw; (try dsimp only at hSw); (try obtain ⟨⟨c0, c1, c2, c3, c4, c5⟩, hH3, hB⟩ := hSw); go_simp); (try with_reducible rfl)
      try simp only [Act.put, List.getElem_toArray, List.getElem_cons_succ, List.getElem_cons_zero, List.setIfInBounds_toArray, List.set_cons_zero, List.set_cons_succ]
      refine wpAnyH_take (i := 9) (v := ?_) rfl (by kernel_rfl) (by kernel_rfl) (by kernel_rfl) (fun _ _ _ h => h) (Or.inl ⟨by kernel_rfl, ?_⟩) (by assumption) ?_
      rotate_left
      · (intro w hSw; (try dsimp only at hSw); (try obtain ⟨⟨c0, c1, c2, c3, c4, c5⟩, hH3, hB⟩ := hSw); go_simp); (try with_reducible rfl)
      try simp only [Act.put, List.getElem_toArray, List.getElem_cons_succ, List.getElem_cons_zero, List.setIfInBounds_toArray, List.set_cons_zero, List.set_cons_succ]
      refine wpAnyH_ready (rs := [4]) (by kernel_rfl) (by simp) ?_
      refine AllReadyH.cons rfl (fun K hK => ?_) ?_
      rotate_left
      · exact AllReadyH.nil
      go_simp
      have hHn := hHeld
      obtain ⟨⟨c0, c1, c2, c3, c4, c5⟩, hH3, hB⟩ := hHn
      refine (HT.out _).mono ?_
      rintro e wN ⟨rfl, hBN⟩
      clear c0 c1 c2 c3 c4 c5 hH3 hB
      refine hK.out _ _ ?_ (fun hHeld => ?_)
      · (try dsimp only); obtain ⟨⟨c0, c1, c2, c3, c4, c5⟩, hH3, hB⟩ := hHeld; exact ⟨⟨cell_keep hBN c0, cell_keep hBN c1, cell_keep hBN c2, cell_keep hBN c3, cell_keep hBN c4, cell_keep hBN c5⟩, hH3.below hBN (Nat.le_refl _), hB.trans (hBN.mono hB.size)⟩
      clear hK K
      try simp only [Act.put, List.getElem_toArray, List.getElem_cons_succ, List.getElem_cons_zero, List.setIfInBounds_toArray, List.set_cons_zero, List.set_cons_succ]
      refine wpAnyH_take (i := 7) (v := ?_) rfl (by kernel_rfl) (by kernel_rfl) (by kernel_rfl) (fun _ _ _ h => h) (Or.inl ⟨by kernel_rfl, ?_⟩) (by assumption) ?_
      rotate_left
      · (intro w hSw; (try dsimp only at hSw); (try obtain ⟨⟨c0, c1, c2, c3, c4, c5⟩, hH3, hB⟩ := hSw); go_simp); (try with_reducible rfl)
      try simp only [Act.put, List.getElem_toArray, List.getElem_cons_succ, List.getElem_cons_zero, List.setIfInBounds_toArray, List.set_cons_zero, List.set_cons_succ]
      refine wpAnyH_ready (rs := [10]) (by kernel_rfl) (by simp) ?_
      refine AllReadyH.cons rfl (fun K hK => ?_) ?_
      rotate_left
      · exact AllReadyH.nil
      go_simp
      have hHn := hHeld
      obtain ⟨⟨c0, c1, c2, c3, c4, c5⟩, hH3, hB⟩ := hHn
      refine (HX.out _ hH3).mono ?_
      rintro e wN ⟨rfl, hBN⟩
      clear c0 c1 c2 c3 c4 c5 hH3 hB
      refine hK.out _ _ ?_ (fun hHeld => ?_)
      · (try dsimp only); obtain ⟨⟨c0, c1, c2, c3, c4, c5⟩, hH3, hB⟩ := hHeld; exact ⟨⟨cell_keep hBN c0, cell_keep hBN c1, cell_keep hBN c2, cell_keep hBN c3, cell_keep hBN c4, cell_keep hBN c5⟩, hH3.below hBN (Nat.le_refl _), hB.trans (hBN.mono hB.size)⟩
      clear hK K
      try simp only [Act.put, List.getElem_toArray, List.getElem_cons_succ, List.getElem_cons_zero, List.setIfInBounds_toArray, List.set_cons_zero, List.set_cons_succ]
      refine wpAnyH_take (i := 11) (v := ?_) rfl (by kernel_rfl) (by kernel_rfl) (by kernel_rfl) (fun _ _ _ h => h) (Or.inl ⟨by kernel_rfl, ?_⟩) (by assumption) ?_
      rotate_left
      · (intro w hSw; (try dsimp only at hSw); (try obtain ⟨⟨c0, c1, c2, c3, c4, c5⟩, hH3, hB⟩ := hSw); go_simp); (try with_reducible rfl)
      try simp only [Act.put, List.getElem_toArray, List.getElem_cons_succ, List.getElem_cons_zero, List.setIfInBounds_toArray, List.set_cons_zero, List.set_cons_succ]
      refine wpAnyH_take (i := 12) (v := ?_) rfl (by kernel_rfl) (by kernel_rfl) (by kernel_rfl) (fun _ _ _ h => h) (Or.inl ⟨by kernel_rfl, ?_⟩) (by assumption) ?_
      rotate_left
      · (intro w hSw; (try dsimp only at hSw); (try obtain ⟨⟨c0, c1, c2, c3, c4, c5⟩, hH3, hB⟩ := hSw); go_simp); (try with_reducible rfl)
      try simp only [Act.put, List.getElem_toArray, List.getElem_cons_succ, List.getElem_cons_zero, List.setIfInBounds_toArray, List.set_cons_zero, List.set_cons_succ]
      refine wpAnyH_done (by kernel_rfl) ?_ _
      refine NoPanic.normal ?_
      go_wp2
      go_ret
      exact ⟨rfl, hHeld.2.2⟩
    · obtain ⟨k, n, m⟩ := a
      obtain rfl : k = 4 := q
      have HX0 := fun w (h : Bls w p ln cap H) => hit5_c ⟨4, n, m⟩ N L p ln cap H w h
      rw [show hitA ⟨4, n, m⟩ N L H = (hasAt H n) from rfl]
      have HK := Lib.hid (fun w => iskind_c 4 w)
      rw [show (decide ((0 : Int) ≤ 4) && decide ((4 : Int) < 7)) = true from rfl] at HK
      have HB := Lib.hid (Below.al2 w)
      have HT := Lib.hid (fun w => hitters_c w)
      have HX := Lib.hid HX0
      unfold adv lnv at HX ⊢
      unfold hitV at HT
      have hH2 := (hH.alloc (.cells #[.int .i64 4, .int .i64 n, .int .i64 m] 23)).alloc (.cells #[.int .i64 N, .bool L, .slice p ln cap] 48)
      have hidx : ∀ w, (Instr.index 83 hitV (.int .i64 4)).run Tryz.prog w = .ok (.func (.func 65) #[] #[]) w := fun w => by kernel_rfl
      unfold hitV at hidx
      clear hk hN0 hN hr HX0 hH
      generalize hX : (hasAt H n) = X at HX ⊢
      clear hX
      go_enter Tryz.func35, Tryz.ntmps35
      go_wp2_with fail
      refine wp_region_noPanic ?_
      refine wp_region_held_drew (S := fun w' => (w'.cell? ⟨w.heap.size, 0, none⟩ = some (.int .i64 4) ∧ w'.cell? ⟨w.heap.size, 1, none⟩ = some (.int .i64 n) ∧ w'.cell? ⟨w.heap.size, 2, none⟩ = some (.int .i64 m) ∧ w'.cell? ⟨(w.heap.size + 1), 0, none⟩ = some (.int .i64 N) ∧ w'.cell? ⟨(w.heap.size + 1), 1, none⟩ = some (.bool L) ∧ w'.cell? ⟨(w.heap.size + 1), 2, none⟩ = some (.slice p ln cap)) ∧ Bls w' p ln cap H ∧ Below w.heap.size w w') (by kernel_rfl) ?_ (fun hHeld => ?_)
      · (try dsimp only); exact ⟨by simp [go_sem], (hH2.below (Below.refl _ _).drew (Nat.le_refl _)), (HB.out _ _).drew⟩
      refine wpAnyH_take (i := 0) (v := ?_) rfl (by kernel_rfl) (by kernel_rfl) (by kernel_rfl) (fun _ _ _ h => h) (Or.inl ⟨by kernel_rfl, ?_⟩) (by assumption) ?_
      rotate_left
      · (intro w hSw; (try dsimp only at hSw); (try obtain ⟨⟨c0, c1, c2, c3, c4, c5⟩, hH3, hB⟩ := hSw); go_simp); (try with_reducible rfl)
      try simp only [Act.put, List.getElem_toArray, List.getElem_cons_succ, List.getElem_cons_zero, List.setIfInBounds_toArray, List.set_cons_zero, List.set_cons_succ]
      refine wpAnyH_take (i := 1) (v := ?_) rfl (by kernel_rfl) (by kernel_rfl) (by kernel_rfl) (fun _ _ _ h => h) (Or.inl ⟨by kernel_rfl, ?_⟩) (by assumption) ?_
      rotate_left
      · (intro w hSw; (try dsimp only at hSw); (try obtain ⟨⟨c0, c1, c2, c3, c4, c5⟩, hH3, hB⟩ := hSw); go_simp); (try with_reducible rfl)
      try simp only [Act.put, List.getElem_toArray, List.getElem_cons_succ, List.getElem_cons_zero, List.setIfInBounds_toArray, List.set_cons_zero, List.set_cons_succ]
      refine wpAnyH_ready (rs := [2]) (by kernel_rfl) (by simp) ?_
      refine AllReadyH.cons rfl (fun K hK => ?_) ?_
      rotate_left
      · exact AllReadyH.nil
      go_simp
      have hHn := hHeld
      obtain ⟨⟨c0, c1, c2, c3, c4, c5⟩, hH3, hB⟩ := hHn
      refine (HK.out _).mono ?_
      rintro e wN ⟨rfl, rfl⟩
      clear c0 c1 c2 c3 c4 c5 hH3 hB
      refine hK.out _ _ ?_ (fun hHeld => ?_)
      · (try dsimp only); exact hHeld
      clear hK K
      try simp only [Act.put, List.getElem_toArray, List.getElem_cons_succ, List.getElem_cons_zero, List.setIfInBounds_toArray, List.set_cons_zero, List.set_cons_succ]
      refine wpAnyH_take (i := 3) (v := ?_) rfl (by kernel_rfl) (by kernel_rfl) (by kernel_rfl) (fun _ _ _ h => h) (Or.inl ⟨by kernel_rfl, ?_⟩) (by assumption) ?_
      rotate_left
      · (intro w hSw; (try dsimp only at hSw); (try obtain ⟨⟨c0, c1, c2, c3, c4, c5⟩, hH3, hB⟩ := hSw); go_simp); (try with_reducible rfl)
      try simp only [Act.put, List.getElem_toArray, List.getElem_cons_succ, List.getElem_cons_zero, List.setIfInBounds_toArray, List.set_cons_zero, List.set_cons_succ]
      refine wpAnyH_take (i := 5) (v := ?_) rfl (by kernel_rfl) (by kernel_rfl) (by kernel_rfl) (fun _ _ _ h => h) (Or.inl ⟨by kernel_rfl, ?_⟩) (by assumption) ?_
      rotate_left
      · (intro w hSw; (try dsimp only at hSw); (try obtain ⟨⟨c0, c1, c2, c3, c4, c5⟩, hH3, hB⟩ := hSw); go_simp); (try with_reducible rfl)
      try simp only [Act.put, List.getElem_toArray, List.getElem_cons_succ, List.getElem_cons_zero, List.setIfInBounds_toArray, List.set_cons_zero, List.set_cons_succ]
      refine wpAnyH_take (i := 6) (v := ?_) rfl (by kernel_rfl) (by kernel_rfl) (by kernel_rfl) (fun _ _ _ h => h) (Or.inl ⟨by kernel_rfl, ?_⟩) (by assumption) ?_
      rotate_left
      · (intro w hSw; (try dsimp only at hSw); (try obtain ⟨⟨c0, c1, c2, c3, c4, c5⟩, hH3, hB⟩ := hSw); go_simp); (try with_reducible rfl)
      try simp only [Act.put, List.getElem_toArray, List.getElem_cons_succ, List.getElem_cons_zero, List.setIfInBounds_toArray, List.set_cons_zero, List.set_cons_succ]
      refine wpAnyH_take (i := 8) (v := ?_) rfl (by kernel_rfl) (by kernel_rfl) (by kernel_rfl) (fun _ _ _ h => h) (Or.inl ⟨by kernel_rfl, ?_⟩) (by assumption) ?_
      rotate_left
      · (intro w hSw; (try dsimp only at hSw); (try obtain ⟨⟨c0, c1, c2, c3, c4, c5⟩, hH3, hB⟩ := hSw); go_simp); (try with_reducible rfl)
      try simp only [Act.put, List.getElem_toArray, List.getElem_cons_succ, List.getElem_cons_zero, List.setIfInBounds_toArray, List.set_cons_zero, List.set_cons_succ]
      refine wpAnyH_take (i := 9) (v := ?_) rfl (by kernel_rfl) (by kernel_rfl) (by kernel_rfl) (fun _ _ _ h => h) (Or.inl ⟨by kernel_rfl, ?_⟩) (by assumption) ?_
      rotate_left
      · (intro w hSw; (try dsimp only at hSw); (try obtain ⟨⟨c0, c1, c2, c3, c4, c5⟩, hH3, hB⟩ := hSw); go_simp); (try with_reducible rfl)
      try simp only [Act.put, List.getElem_toArray, List.getElem_cons_succ, List.getElem_cons_zero, List.setIfInBounds_toArray, List.set_cons_zero, List.set_cons_succ]
      refine wpAnyH_ready (rs := [4]) (by kernel_rfl) (by simp) ?_
      refine AllReadyH.cons rfl (fun K hK => ?_) ?_
      rotate_left
      · exact AllReadyH.nil
      go_simp
      have hHn := hHeld
      obtain ⟨⟨c0, c1, c2, c3, c4, c5⟩, hH3, hB⟩ := hHn
      refine (HT.out _).mono ?_
      rintro e wN ⟨rfl, hBN⟩
      clear c0 c1 c2 c3 c4 c5 hH3 hB
      refine hK.out _ _ ?_ (fun hHeld => ?_)
      · (try dsimp only); obtain ⟨⟨c0, c1, c2, c3, c4, c5⟩, hH3, hB⟩ := hHeld; exact ⟨⟨cell_keep hBN c0, cell_keep hBN c1, cell_keep hBN c2, cell_keep hBN c3, cell_keep hBN c4, cell_keep hBN c5⟩, hH3.below hBN (Nat.le_refl _), hB.trans (hBN.mono hB.size)⟩
      clear hK K
      try simp only [Act.put, List.getElem_toArray, List.getElem_cons_succ, List.getElem_cons_zero, List.setIfInBounds_toArray, List.set_cons_zero, List.set_cons_succ]
      refine wpAnyH_take (i := 7) (v := ?_) rfl (by kernel_rfl) (by kernel_rfl) (by kernel_rfl) (fun _ _ _ h => h) (Or.inl ⟨by kernel_rfl, ?_⟩) (by assumption) ?_
      rotate_left
      · (intro w hSw; (try dsimp only at hSw); (try obtain ⟨⟨c0, c1, c2, c3, c4, c5⟩, hH3, hB⟩ := hSw); go_simp); (try with_reducible rfl)
      try simp only [Act.put, List.getElem_toArray, List.getElem_cons_succ, List.getElem_cons_zero, List.setIfInBounds_toArray, List.set_cons_zero, List.set_cons_succ]
      refine wpAnyH_ready (rs := [10]) (by kernel_rfl) (by simp) ?_
      refine AllReadyH.cons rfl (fun K hK => ?_) ?_
      rotate_left
      · exact AllReadyH.nil
      go_simp
      have hHn := hHeld
      obtain ⟨⟨c0, c1, c2, c3, c4, c5⟩, hH3, hB⟩ := hHn
      refine (HX.out _ hH3).mono ?_
      rintro e wN ⟨rfl, hBN⟩
      clear c0 c1 c2 c3 c4 c5 hH3 hB
      refine hK.out _ _ ?_ (fun hHeld => ?_)
      · (try dsimp only); obtain ⟨⟨c0, c1, c2, c3, c4, c5⟩, hH3, hB⟩ := hHeld; exact ⟨⟨cell_keep hBN c0, cell_keep hBN c1, cell_keep hBN c2, cell_keep hBN c3, cell_keep hBN c4, cell_keep hBN c5⟩, hH3.below hBN (Nat.le_refl _), hB.trans (hBN.mono hB.size)⟩
      clear hK K
      try simp only [Act.put, List.getElem_toArray, List.getElem_cons_succ, List.getElem_cons_zero, List.setIfInBounds_toArray, List.set_cons_zero, List.set_cons_succ]
      refine wpAnyH_take (i := 11) (v := ?_) rfl (by kernel_rfl) (by kernel_rfl) (by kernel_rfl) (fun _ _ _ h => h) (Or.inl ⟨by kernel_rfl, ?_⟩) (by assumption) ?_
      rotate_left
      · (intro w hSw; (try dsimp only at hSw); (try obtain ⟨⟨c0, c1, c2, c3, c4, c5⟩, hH3, hB⟩ := hSw); go_simp); (try with_reducible rfl)
      try simp only [Act.put, List.getElem_toArray, List.getElem_cons_succ, List.getElem_cons_zero, List.setIfInBounds_toArray, List.set_cons_zero, List.set_cons_succ]
      refine wpAnyH_take (i := 12) (v := ?_) rfl (by kernel_rfl) (by kernel_rfl) (by kernel_rfl) (fun _ _ _ h => h) (Or.inl ⟨by kernel_rfl, ?_⟩) (by assumption) ?_
      rotate_left
      · (intro w hSw; (try dsimp only at hSw); (try obtain ⟨⟨c0, c1, c2, c3, c4, c5⟩, hH3, hB⟩ := hSw); go_simp); (try with_reducible rfl)
      try simp only [Act.put, List.getElem_toArray, List.getElem_cons_succ, List.getElem_cons_zero, List.setIfInBounds_toArray, List.set_cons_zero, List.set_cons_succ]
      refine wpAnyH_done (by kernel_rfl) ?_ _
      refine NoPanic.normal ?_
      go_wp2
      go_ret
      exact ⟨rfl, hHeld.2.2⟩
    · obtain ⟨k, n, m⟩ := a
      obtain rfl : k = 5 := q
      have HX0 := fun w (h : Bls w p ln cap H) => hit1_c ⟨5, n, m⟩ N L (.slice p ln cap) w
      rw [show hitA ⟨5, n, m⟩ N L H = (false) from rfl]
      have HK := Lib.hid (fun w => iskind_c 5 w)
      rw [show (decide ((0 : Int) ≤ 5) && decide ((5 : Int) < 7)) = true from rfl] at HK
      have HB := Lib.hid (Below.al2 w)
      have HT := Lib.hid (fun w => hitters_c w)
      have HX := Lib.hid HX0
      unfold adv lnv at HX ⊢
      unfold hitV at HT
      have hH2 := (hH.alloc (.cells #[.int .i64 5, .int .i64 n, .int .i64 m] 23)).alloc (.cells #[.int .i64 N, .bool L, .slice p ln cap] 48)
      have hidx : ∀ w, (Instr.index 83 hitV (.int .i64 5)).run Tryz.prog w = .ok (.func (.func 60) #[] #[]) w := fun w => by kernel_rfl
      unfold hitV at hidx
      clear hk hN0 hN hr HX0 hH
      generalize hX : (false) = X at HX ⊢
      clear hX
      go_enter Tryz.func35, Tryz.ntmps35
      go_wp2_with fail
      refine wp_region_noPanic ?_
      refine wp_region_held_drew (S := fun w' => (w'.cell? ⟨w.heap.size, 0, none⟩ = some (.int .i64 5) ∧ w'.cell? ⟨w.heap.size, 1, none⟩ = some (.int .i64 n) ∧ w'.cell? ⟨w.heap.size, 2, none⟩ = some (.int .i64 m) ∧ w'.cell? ⟨(w.heap.size + 1), 0, none⟩ = some (.int .i64 N) ∧ w'.cell? ⟨(w.heap.size + 1), 1, none⟩ = some (.bool L) ∧ w'.cell? ⟨(w.heap.size + 1), 2, none⟩ = some (.slice p ln cap)) ∧ Bls w' p ln cap H ∧ Below w.heap.size w w') (by kernel_rfl) ?_ (fun hHeld => ?_)
      · (try dsimp only); exact ⟨by simp [go_sem], (hH2.below (Below.refl _ _).drew (Nat.le_refl _)), (HB.out _ _).drew⟩
      refine wpAnyH_take (i := 0) (v := ?_) rfl (by kernel_rfl) (by kernel_rfl) (by kernel_rfl) (fun _ _ _ h => h) (Or.inl ⟨by kernel_rfl, ?_⟩) (by assumption) ?_
      rotate_left
      · (intro w hSw; (try dsimp only at hSw); (try obtain ⟨⟨c0, c1, c2, c3, c4, c5⟩, hH3, hB⟩ := hSw); go_simp); (try with_reducible rfl)
      try simp only [Act.put, List.getElem_toArray, List.getElem_cons_succ, List.getElem_cons_zero, List.setIfInBounds_toArray, List.set_cons_zero, List.set_cons_succ]
      refine wpAnyH_take (i := 1) (v := ?_) rfl (by kernel_rfl) (by kernel_rfl) (by kernel_rfl) (fun _ _ _ h => h) (Or.inl ⟨by kernel_rfl, ?_⟩) (by assumption) ?_
      rotate_left
      · (intro w hSw; (try dsimp only at hSw); (try obtain ⟨⟨c0, c1, c2, c3, c4, c5⟩, hH3, hB⟩ := hSw); go_simp); (try with_reducible rfl)
      try simp only [Act.put, List.getElem_toArray, List.getElem_cons_succ, List.getElem_cons_zero, List.setIfInBounds_toArray, List.set_cons_zero, List.set_cons_succ]
      refine wpAnyH_ready (rs := [2]) (by kernel_rfl) (by simp) ?_
      refine AllReadyH.cons rfl (fun K hK => ?_) ?_
      rotate_left
      · exact AllReadyH.nil
      go_simp
      have hHn := hHeld
      obtain ⟨⟨c0, c1, c2, c3, c4, c5⟩, hH3, hB⟩ := hHn
      refine (HK.out _).mono ?_
      rintro e wN ⟨rfl, rfl⟩
      clear c0 c1 c2 c3 c4 c5 hH3 hB
      refine hK.out _ _ ?_ (fun hHeld => ?_)
      · (try dsimp only); exact hHeld
      clear hK K
      try simp only [Act.put, List.getElem_toArray, List.getElem_cons_succ, List.getElem_cons_zero, List.setIfInBounds_toArray, List.set_cons_zero, List.set_cons_succ]
      refine wpAnyH_take (i := 3) (v := ?_) rfl (by kernel_rfl) (by kernel_rfl) (by kernel_rfl) (fun _ _ _ h => h) (Or.inl ⟨by kernel_rfl, ?_⟩) (by assumption) ?_
      rotate_left
      · (intro w hSw; (try dsimp only at hSw); (try obtain ⟨⟨c0, c1, c2, c3, c4, c5⟩, hH3, hB⟩ := hSw); go_simp); (try with_reducible rfl)
      try simp only [Act.put, List.getElem_toArray, List.getElem_cons_succ, List.getElem_cons_zero, List.setIfInBounds_toArray, List.set_cons_zero, List.set_cons_succ]
      refine wpAnyH_take (i := 5) (v := ?_) rfl (by kernel_rfl) (by kernel_rfl) (by kernel_rfl) (fun _ _ _ h => h) (Or.inl ⟨by kernel_rfl, ?_⟩) (by assumption) ?_
      rotate_left
      · (intro w hSw; (try dsimp only at hSw); (try obtain ⟨⟨c0, c1, c2, c3, c4, c5⟩, hH3, hB⟩ := hSw); go_simp); (try with_reducible rfl)
      try simp only [Act.put, List.getElem_toArray, List.getElem_cons_succ, List.getElem_cons_zero, List.setIfInBounds_toArray, List.set_cons_zero, List.set_cons_succ]
      refine wpAnyH_take (i := 6) (v := ?_) rfl (by kernel_rfl) (by kernel_rfl) (by kernel_rfl) (fun _ _ _ h => h) (Or.inl ⟨by kernel_rfl, ?_⟩) (by assumption) ?_
      rotate_left
      · (intro w hSw; (try dsimp only at hSw); (try obtain ⟨⟨c0, c1, c2, c3, c4, c5⟩, hH3, hB⟩ := hSw); go_simp); (try with_reducible rfl)
      try simp only [Act.put, List.getElem_toArray, List.getElem_cons_succ, List.getElem_cons_zero, List.setIfInBounds_toArray, List.set_cons_zero, List.set_cons_succ]
      refine wpAnyH_take (i := 8) (v := ?_) rfl (by kernel_rfl) (by kernel_rfl) (by kernel_rfl) (fun _ _ _ h => h) (Or.inl ⟨by kernel_rfl, ?_⟩) (by assumption) ?_
      rotate_left
      · (intro w hSw; (try dsimp only at hSw); (try obtain ⟨⟨c0, c1, c2, c3, c4, c5⟩, hH3, hB⟩ := hSw); go_simp); (try with_reducible rfl)
      try simp only [Act.put, List.getElem_toArray, List.getElem_cons_succ, List.getElem_cons_zero, List.setIfInBounds_toArray, List.set_cons_zero, List.set_cons_succ]
      refine wpAnyH_take (i := 9) (v := ?_) rfl (by kernel_rfl) (by kernel_rfl) (by kernel_rfl) (fun _ _ _ h => h) (Or.inl ⟨by kernel_rfl, ?_⟩) (by assumption) ?_
      rotate_left
      · (intro w hSw; (try dsimp only at hSw); (try obtain ⟨⟨c0, c1, c2, c3, c4, c5⟩, hH3, hB⟩ := hSw); go_simp); (try with_reducible rfl)
      try simp only [Act.put, List.getElem_toArray, List.getElem_cons_succ, List.getElem_cons_zero, List.setIfInBounds_toArray, List.set_cons_zero, List.set_cons_succ]
      refine wpAnyH_ready (rs := [4]) (by kernel_rfl) (by simp) ?_
      refine AllReadyH.cons rfl (fun K hK => ?_) ?_
      rotate_left
      · exact AllReadyH.nil
      go_simp
      have hHn := hHeld
      obtain ⟨⟨c0, c1, c2, c3, c4, c5⟩, hH3, hB⟩ := hHn
      refine (HT.out _).mono ?_
      rintro e wN ⟨rfl, hBN⟩
      clear c0 c1 c2 c3 c4 c5 hH3 hB
      refine hK.out _ _ ?_ (fun hHeld => ?_)
      · (try dsimp only); obtain ⟨⟨c0, c1, c2, c3, c4, c5⟩, hH3, hB⟩ := hHeld; exact ⟨⟨cell_keep hBN c0, cell_keep hBN c1, cell_keep hBN c2, cell_keep hBN c3, cell_keep hBN c4, cell_keep hBN c5⟩, hH3.below hBN (Nat.le_refl _), hB.trans (hBN.mono hB.size)⟩
      clear hK K
      try simp only [Act.put, List.getElem_toArray, List.getElem_cons_succ, List.getElem_cons_zero, List.setIfInBounds_toArray, List.set_cons_zero, List.set_cons_succ]
      refine wpAnyH_take (i := 7) (v := ?_) rfl (by kernel_rfl) (by kernel_rfl) (by kernel_rfl) (fun _ _ _ h => h) (Or.inl ⟨by kernel_rfl, ?_⟩) (by assumption) ?_
      rotate_left
      · (intro w hSw; (try dsimp only at hSw); (try obtain ⟨⟨c0, c1, c2, c3, c4, c5⟩, hH3, hB⟩ := hSw); go_simp); (try with_reducible rfl)
      try simp only [Act.put, List.getElem_toArray, List.getElem_cons_succ, List.getElem_cons_zero, List.setIfInBounds_toArray, List.set_cons_zero, List.set_cons_succ]
      refine wpAnyH_ready (rs := [10]) (by kernel_rfl) (by simp) ?_
      refine AllReadyH.cons rfl (fun K hK => ?_) ?_
      rotate_left
      · exact AllReadyH.nil
      go_simp
      have hHn := hHeld
      obtain ⟨⟨c0, c1, c2, c3, c4, c5⟩, hH3, hB⟩ := hHn
      refine (HX.out _ hH3).mono ?_
      rintro e wN ⟨rfl, hBN⟩
      clear c0 c1 c2 c3 c4 c5 hH3 hB
      refine hK.out _ _ ?_ (fun hHeld => ?_)
      · (try dsimp only); obtain ⟨⟨c0, c1, c2, c3, c4, c5⟩, hH3, hB⟩ := hHeld; exact ⟨⟨cell_keep hBN c0, cell_keep hBN c1, cell_keep hBN c2, cell_keep hBN c3, cell_keep hBN c4, cell_keep hBN c5⟩, hH3.below hBN (Nat.le_refl _), hB.trans (hBN.mono hB.size)⟩
      clear hK K
      try simp only [Act.put, List.getElem_toArray, List.getElem_cons_succ, List.getElem_cons_zero, List.setIfInBounds_toArray, List.set_cons_zero, List.set_cons_succ]
      refine wpAnyH_take (i := 11) (v := ?_) rfl (by kernel_rfl) (by kernel_rfl) (by kernel_rfl) (fun _ _ _ h => h) (Or.inl ⟨by kernel_rfl, ?_⟩) (by assumption) ?_
      rotate_left
      · (intro w hSw; (try dsimp only at hSw); (try obtain ⟨⟨c0, c1, c2, c3, c4, c5⟩, hH3, hB⟩ := hSw); go_simp); (try with_reducible rfl)
      try simp only [Act.put, List.getElem_toArray, List.getElem_cons_succ, List.getElem_cons_zero, List.setIfInBounds_toArray, List.set_cons_zero, List.set_cons_succ]
      refine wpAnyH_take (i := 12) (v := ?_) rfl (by kernel_rfl) (by kernel_rfl) (by kernel_rfl) (fun _ _ _ h => h) (Or.inl ⟨by kernel_rfl, ?_⟩) (by assumption) ?_
      rotate_left
      · (intro w hSw; (try dsimp only at hSw); (try obtain ⟨⟨c0, c1, c2, c3, c4, c5⟩, hH3, hB⟩ := hSw); go_simp); (try with_reducible rfl)
      try simp only [Act.put, List.getElem_toArray, List.getElem_cons_succ, List.getElem_cons_zero, List.setIfInBounds_toArray, List.set_cons_zero, List.set_cons_succ]
      refine wpAnyH_done (by kernel_rfl) ?_ _
      refine NoPanic.normal ?_
      go_wp2
      go_ret
      exact ⟨rfl, hHeld.2.2⟩
    · obtain ⟨k, n, m⟩ := a
      obtain rfl : k = 6 := q
      have HX0 := fun w (h : Bls w p ln cap H) => hit1_c ⟨6, n, m⟩ N L (.slice p ln cap) w
      rw [show hitA ⟨6, n, m⟩ N L H = (false) from rfl]
      have HK := Lib.hid (fun w => iskind_c 6 w)
      rw [show (decide ((0 : Int) ≤ 6) && decide ((6 : Int) < 7)) = true from rfl] at HK
      have HB := Lib.hid (Below.al2 w)
      have HT := Lib.hid (fun w => hitters_c w)
      have HX := Lib.hid HX0
      unfold adv lnv at HX ⊢
      unfold hitV at HT
      have hH2 := (hH.alloc (.cells #[.int .i64 6, .int .i64 n, .int .i64 m] 23)).alloc (.cells #[.int .i64 N, .bool L, .slice p ln cap] 48)
      have hidx : ∀ w, (Instr.index 83 hitV (.int .i64 6)).run Tryz.prog w = .ok (.func (.func 60) #[] #[]) w := fun w => by kernel_rfl
      unfold hitV at hidx
      clear hk hN0 hN hr HX0 hH
      generalize hX : (false) = X at HX ⊢
      clear hX
      go_enter Tryz.func35, Tryz.ntmps35
      go_wp2_with fail
      refine wp_region_noPanic ?_
      refine wp_region_held_drew (S := fun w' => (w'.cell? ⟨w.heap.size, 0, none⟩ = some (.int .i64 6) ∧ w'.cell? ⟨w.heap.size, 1, none⟩ = some (.int .i64 n) ∧ w'.cell? ⟨w.heap.size, 2, none⟩ = some (.int .i64 m) ∧ w'.cell? ⟨(w.heap.size + 1), 0, none⟩ = some (.int .i64 N) ∧ w'.cell? ⟨(w.heap.size + 1), 1, none⟩ = some (.bool L) ∧ w'.cell? ⟨(w.heap.size + 1), 2, none⟩ = some (.slice p ln cap)) ∧ Bls w' p ln cap H ∧ Below w.heap.size w w') (by kernel_rfl) ?_ (fun hHeld => ?_)
      · (try dsimp only); exact ⟨by simp [go_sem], (hH2.below (Below.refl _ _).drew (Nat.le_refl _)), (HB.out _ _).drew⟩
      refine wpAnyH_take (i := 0) (v := ?_) rfl (by kernel_rfl) (by kernel_rfl) (by kernel_rfl) (fun _ _ _ h => h) (Or.inl ⟨by kernel_rfl, ?_⟩) (by assumption) ?_
      rotate_left
      · (intro w hSw; (try dsimp only at hSw); (try obtain ⟨⟨c0, c1, c2, c3, c4, c5⟩, hH3, hB⟩ := hSw); go_simp); (try with_reducible rfl)
      try simp only [Act.put, List.getElem_toArray, List.getElem_cons_succ, List.getElem_cons_zero, List.setIfInBounds_toArray, List.set_cons_zero, List.set_cons_succ]
      refine wpAnyH_take (i := 1) (v := ?_) rfl (by kernel_rfl) (by kernel_rfl) (by kernel_rfl) (fun _ _ _ h => h) (Or.inl ⟨by kernel_rfl, ?_⟩) (by assumption) ?_
      rotate_left
      · (intro w hSw; (try dsimp only at hSw); (try obtain ⟨⟨c0, c1, c2, c3, c4, c5⟩, hH3, hB⟩ := hSw); go_simp); (try with_reducible rfl)
      try simp only [Act.put, List.getElem_toArray, List.getElem_cons_succ, List.getElem_cons_zero, List.setIfInBounds_toArray, List.set_cons_zero, List.set_cons_succ]
      refine wpAnyH_ready (rs := [2]) (by kernel_rfl) (by simp) ?_
      refine AllReadyH.cons rfl (fun K hK => ?_) ?_
      rotate_left
      · exact AllReadyH.nil
      go_simp
      have hHn := hHeld
      obtain ⟨⟨c0, c1, c2, c3, c4, c5⟩, hH3, hB⟩ := hHn
      refine (HK.out _).mono ?_
      rintro e wN ⟨rfl, rfl⟩
      clear c0 c1 c2 c3 c4 c5 hH3 hB
      refine hK.out _ _ ?_ (fun hHeld => ?_)
      · (try dsimp only); exact hHeld
      clear hK K
      try simp only [Act.put, List.getElem_toArray, List.getElem_cons_succ, List.getElem_cons_zero, List.setIfInBounds_toArray, List.set_cons_zero, List.set_cons_succ]
      refine wpAnyH_take (i := 3) (v := ?_) rfl (by kernel_rfl) (by kernel_rfl) (by kernel_rfl) (fun _ _ _ h => h) (Or.inl ⟨by kernel_rfl, ?_⟩) (by assumption) ?_
      rotate_left
      · (intro w hSw; (try dsimp only at hSw); (try obtain ⟨⟨c0, c1, c2, c3, c4, c5⟩, hH3, hB⟩ := hSw); go_simp); (try with_reducible rfl)
      try simp only [Act.put, List.getElem_toArray, List.getElem_cons_succ, List.getElem_cons_zero, List.setIfInBounds_toArray, List.set_cons_zero, List.set_cons_succ]
      refine wpAnyH_take (i := 5) (v := ?_) rfl (by kernel_rfl) (by kernel_rfl) (by kernel_rfl) (fun _ _ _ h => h) (Or.inl ⟨by kernel_rfl, ?_⟩) (by assumption) ?_
      rotate_left
      · (intro w hSw; (try dsimp only at hSw); (try obtain ⟨⟨c0, c1, c2, c3, c4, c5⟩, hH3, hB⟩ := hSw); go_simp); (try with_reducible rfl)
      try simp only [Act.put, List.getElem_toArray, List.getElem_cons_succ, List.getElem_cons_zero, List.setIfInBounds_toArray, List.set_cons_zero, List.set_cons_succ]
      refine wpAnyH_take (i := 6) (v := ?_) rfl (by kernel_rfl) (by kernel_rfl) (by kernel_rfl) (fun _ _ _ h => h) (Or.inl ⟨by kernel_rfl, ?_⟩) (by assumption) ?_
      rotate_left
      · (intro w hSw; (try dsimp only at hSw); (try obtain ⟨⟨c0, c1, c2, c3, c4, c5⟩, hH3, hB⟩ := hSw); go_simp); (try with_reducible rfl)
      try simp only [Act.put, List.getElem_toArray, List.getElem_cons_succ, List.getElem_cons_zero, List.setIfInBounds_toArray, List.set_cons_zero, List.set_cons_succ]
      refine wpAnyH_take (i := 8) (v := ?_) rfl (by kernel_rfl) (by kernel_rfl) (by kernel_rfl) (fun _ _ _ h => h) (Or.inl ⟨by kernel_rfl, ?_⟩) (by assumption) ?_
      rotate_left
      · (intro w hSw; (try dsimp only at hSw); (try obtain ⟨⟨c0, c1, c2, c3, c4, c5⟩, hH3, hB⟩ := hSw); go_simp); (try with_reducible rfl)
      try simp only [Act.put, List.getElem_toArray, List.getElem_cons_succ, List.getElem_cons_zero, List.setIfInBounds_toArray, List.set_cons_zero, List.set_cons_succ]
      refine wpAnyH_take (i := 9) (v := ?_) rfl (by kernel_rfl) (by kernel_rfl) (by kernel_rfl) (fun _ _ _ h => h) (Or.inl ⟨by kernel_rfl, ?_⟩) (by assumption) ?_
      rotate_left
      · (intro w hSw; (try dsimp only at hSw); (try obtain ⟨⟨c0, c1, c2, c3, c4, c5⟩, hH3, hB⟩ := hSw); go_simp); (try with_reducible rfl)
      try simp only [Act.put, List.getElem_toArray, List.getElem_cons_succ, List.getElem_cons_zero, List.setIfInBounds_toArray, List.set_cons_zero, List.set_cons_succ]
      refine wpAnyH_ready (rs := [4]) (by kernel_rfl) (by simp) ?_
      refine AllReadyH.cons rfl (fun K hK => ?_) ?_
      rotate_left
      · exact AllReadyH.nil
      go_simp
      have hHn := hHeld
      obtain ⟨⟨c0, c1, c2, c3, c4, c5⟩, hH3, hB⟩ := hHn
      refine (HT.out _).mono ?_
      rintro e wN ⟨rfl, hBN⟩
      clear c0 c1 c2 c3 c4 c5 hH3 hB
      refine hK.out _ _ ?_ (fun hHeld => ?_)
      · (try dsimp only); obtain ⟨⟨c0, c1, c2, c3, c4, c5⟩, hH3, hB⟩ := hHeld; exact ⟨⟨cell_keep hBN c0, cell_keep hBN c1, cell_keep hBN c2, cell_keep hBN c3, cell_keep hBN c4, cell_keep hBN c5⟩, hH3.below hBN (Nat.le_refl _), hB.trans (hBN.mono hB.size)⟩
      clear hK K
      try simp only [Act.put, List.getElem_toArray, List.getElem_cons_succ, List.getElem_cons_zero, List.setIfInBounds_toArray, List.set_cons_zero, List.set_cons_succ]
      refine wpAnyH_take (i := 7) (v := ?_) rfl (by kernel_rfl) (by kernel_rfl) (by kernel_rfl) (fun _ _ _ h => h) (Or.inl ⟨by kernel_rfl, ?_⟩) (by assumption) ?_
      rotate_left
      · (intro w hSw; (try dsimp only at hSw); (try obtain ⟨⟨c0, c1, c2, c3, c4, c5⟩, hH3, hB⟩ := hSw); go_simp); (try with_reducible rfl)
      try simp only [Act.put, List.getElem_toArray, List.getElem_cons_succ, List.getElem_cons_zero, List.setIfInBounds_toArray, List.set_cons_zero, List.set_cons_succ]
      refine wpAnyH_ready (rs := [10]) (by kernel_rfl) (by simp) ?_
      refine AllReadyH.cons rfl (fun K hK => ?_) ?_
      rotate_left
      · exact AllReadyH.nil
      go_simp
      have hHn := hHeld
      obtain ⟨⟨c0, c1, c2, c3, c4, c5⟩, hH3, hB⟩ := hHn
      refine (HX.out _ hH3).mono ?_
      rintro e wN ⟨rfl, hBN⟩
      clear c0 c1 c2 c3 c4 c5 hH3 hB
      refine hK.out _ _ ?_ (fun hHeld => ?_)
      · (try dsimp only); obtain ⟨⟨c0, c1, c2, c3, c4, c5⟩, hH3, hB⟩ := hHeld; exact ⟨⟨cell_keep hBN c0, cell_keep hBN c1, cell_keep hBN c2, cell_keep hBN c3, cell_keep hBN c4, cell_keep hBN c5⟩, hH3.below hBN (Nat.le_refl _), hB.trans (hBN.mono hB.size)⟩
      clear hK K
      try simp only [Act.put, List.getElem_toArray, List.getElem_cons_succ, List.getElem_cons_zero, List.setIfInBounds_toArray, List.set_cons_zero, List.set_cons_succ]
      refine wpAnyH_take (i := 11) (v := ?_) rfl (by kernel_rfl) (by kernel_rfl) (by kernel_rfl) (fun _ _ _ h => h) (Or.inl ⟨by kernel_rfl, ?_⟩) (by assumption) ?_
      rotate_left
      · (intro w hSw; (try dsimp only at hSw); (try obtain ⟨⟨c0, c1, c2, c3, c4, c5⟩, hH3, hB⟩ := hSw); go_simp); (try with_reducible rfl)
      try simp only [Act.put, List.getElem_toArray, List.getElem_cons_succ, List.getElem_cons_zero, List.setIfInBounds_toArray, List.set_cons_zero, List.set_cons_succ]
      refine wpAnyH_take (i := 12) (v := ?_) rfl (by kernel_rfl) (by kernel_rfl) (by kernel_rfl) (fun _ _ _ h => h) (Or.inl ⟨by kernel_rfl, ?_⟩) (by assumption) ?_
      rotate_left
      · (intro w hSw; (try dsimp only at hSw); (try obtain ⟨⟨c0, c1, c2, c3, c4, c5⟩, hH3, hB⟩ := hSw); go_simp); (try with_reducible rfl)
      try simp only [Act.put, List.getElem_toArray, List.getElem_cons_succ, List.getElem_cons_zero, List.setIfInBounds_toArray, List.set_cons_zero, List.set_cons_succ]
      refine wpAnyH_done (by kernel_rfl) ?_ _
      refine NoPanic.normal ?_
      go_wp2
      go_ret
      exact ⟨rfl, hHeld.2.2⟩
  · have e : hitA a N L H = false := by
      rw [hit_of, if_neg (by omega), if_neg (by omega), if_neg (by omega), if_neg (by omega), if_neg (by omega)]
    rw [e]
    obtain ⟨k, n, m⟩ := a
    simp only at hr
    have HB := Lib.hid (Below.al2 w)
    have HK := Lib.hid (fun w => iskind_c k w)
    rw [show (decide (0 ≤ k) && decide (k < 7)) = false by simp; omega] at HK
    unfold adv lnv
    clear e hk hN0 hN hr
    have hH2 := (hH.alloc (.cells #[.int .i64 k, .int .i64 n, .int .i64 m] 23)).alloc (.cells #[.int .i64 N, .bool L, .slice p ln cap] 48)
    clear hH
    go_enter Tryz.func35, Tryz.ntmps35
    go_wp2_with fail
    refine wp_region_noPanic ?_
    refine wp_region_held_drew (S := fun w' => (w'.cell? ⟨w.heap.size, 0, none⟩ = some (.int .i64 k) ∧ w'.cell? ⟨w.heap.size, 1, none⟩ = some (.int .i64 n) ∧ w'.cell? ⟨w.heap.size, 2, none⟩ = some (.int .i64 m) ∧ w'.cell? ⟨(w.heap.size + 1), 0, none⟩ = some (.int .i64 N) ∧ w'.cell? ⟨(w.heap.size + 1), 1, none⟩ = some (.bool L) ∧ w'.cell? ⟨(w.heap.size + 1), 2, none⟩ = some (.slice p ln cap)) ∧ Bls w' p ln cap H ∧ Below w.heap.size w w') (by kernel_rfl) ?_ (fun hHeld => ?_)
    · (try dsimp only); exact ⟨by simp [go_sem], (hH2.below (Below.refl _ _).drew (Nat.le_refl _)), (HB.out _ _).drew⟩
    refine wpAnyH_take (i := 0) (v := ?_) rfl (by kernel_rfl) (by kernel_rfl) (by kernel_rfl) (fun _ _ _ h => h) (Or.inl ⟨by kernel_rfl, ?_⟩) (by assumption) ?_
    rotate_left
    · (intro w hSw; (try dsimp only at hSw); (try obtain ⟨⟨c0, c1, c2, c3, c4, c5⟩, hH3, hB⟩ := hSw); go_simp); (try with_reducible rfl)
    try simp only [Act.put, List.getElem_toArray, List.getElem_cons_succ, List.getElem_cons_zero, List.setIfInBounds_toArray, List.set_cons_zero, List.set_cons_succ]
    refine wpAnyH_take (i := 1) (v := ?_) rfl (by kernel_rfl) (by kernel_rfl) (by kernel_rfl) (fun _ _ _ h => h) (Or.inl ⟨by kernel_rfl, ?_⟩) (by assumption) ?_
    rotate_left
    · (intro w hSw; (try dsimp only at hSw); (try obtain ⟨⟨c0, c1, c2, c3, c4, c5⟩, hH3, hB⟩ := hSw); go_simp); (try with_reducible rfl)
    try simp only [Act.put, List.getElem_toArray, List.getElem_cons_succ, List.getElem_cons_zero, List.setIfInBounds_toArray, List.set_cons_zero, List.set_cons_succ]
    refine wpAnyH_ready (rs := [2]) (by kernel_rfl) (by simp) ?_
    refine AllReadyH.cons rfl (fun K hK => ?_) ?_
    rotate_left
    · exact AllReadyH.nil
    go_simp
    have hHn := hHeld
    obtain ⟨⟨c0, c1, c2, c3, c4, c5⟩, hH3, hB⟩ := hHn
    refine (HK.out _).mono ?_
    rintro e wN ⟨rfl, rfl⟩
    clear c0 c1 c2 c3 c4 c5 hH3 hB
    refine hK.out _ _ ?_ (fun hHeld => ?_)
    · (try dsimp only); exact hHeld
    clear hK K
    try simp only [Act.put, List.getElem_toArray, List.getElem_cons_succ, List.getElem_cons_zero, List.setIfInBounds_toArray, List.set_cons_zero, List.set_cons_succ]
    refine wpAnyH_take (i := 3) (v := ?_) rfl (by kernel_rfl) (by kernel_rfl) (by kernel_rfl) (fun _ _ _ h => h) (Or.inl ⟨by kernel_rfl, ?_⟩) (by assumption) ?_
    rotate_left
    · (intro w hSw; (try dsimp only at hSw); (try obtain ⟨⟨c0, c1, c2, c3, c4, c5⟩, hH3, hB⟩ := hSw); go_simp); (try with_reducible rfl)
    try simp only [Act.put, List.getElem_toArray, List.getElem_cons_succ, List.getElem_cons_zero, List.setIfInBounds_toArray, List.set_cons_zero, List.set_cons_succ]
    refine wpAnyH_take (i := 4) (v := undef) rfl (by kernel_rfl) (by kernel_rfl) (by kernel_rfl) (fun _ _ _ h => h) (Or.inr ⟨by kernel_rfl, rfl⟩) (by assumption) ?_
    try simp only [Act.put, List.getElem_toArray, List.getElem_cons_succ, List.getElem_cons_zero, List.setIfInBounds_toArray, List.set_cons_zero, List.set_cons_succ]
    refine wpAnyH_take (i := 5) (v := undef) rfl (by kernel_rfl) (by kernel_rfl) (by kernel_rfl) (fun _ _ _ h => h) (Or.inr ⟨by kernel_rfl, rfl⟩) (by assumption) ?_
    try simp only [Act.put, List.getElem_toArray, List.getElem_cons_succ, List.getElem_cons_zero, List.setIfInBounds_toArray, List.set_cons_zero, List.set_cons_succ]
    refine wpAnyH_take (i := 6) (v := undef) rfl (by kernel_rfl) (by kernel_rfl) (by kernel_rfl) (fun _ _ _ h => h) (Or.inr ⟨by kernel_rfl, rfl⟩) (by assumption) ?_
    try simp only [Act.put, List.getElem_toArray, List.getElem_cons_succ, List.getElem_cons_zero, List.setIfInBounds_toArray, List.set_cons_zero, List.set_cons_succ]
    refine wpAnyH_take (i := 7) (v := undef) rfl (by kernel_rfl) (by kernel_rfl) (by kernel_rfl) (fun _ _ _ h => h) (Or.inr ⟨by kernel_rfl, rfl⟩) (by assumption) ?_
    try simp only [Act.put, List.getElem_toArray, List.getElem_cons_succ, List.getElem_cons_zero, List.setIfInBounds_toArray, List.set_cons_zero, List.set_cons_succ]
    refine wpAnyH_take (i := 8) (v := undef) rfl (by kernel_rfl) (by kernel_rfl) (by kernel_rfl) (fun _ _ _ h => h) (Or.inr ⟨by kernel_rfl, rfl⟩) (by assumption) ?_
    try simp only [Act.put, List.getElem_toArray, List.getElem_cons_succ, List.getElem_cons_zero, List.setIfInBounds_toArray, List.set_cons_zero, List.set_cons_succ]
    refine wpAnyH_take (i := 9) (v := undef) rfl (by kernel_rfl) (by kernel_rfl) (by kernel_rfl) (fun _ _ _ h => h) (Or.inr ⟨by kernel_rfl, rfl⟩) (by assumption) ?_
    try simp only [Act.put, List.getElem_toArray, List.getElem_cons_succ, List.getElem_cons_zero, List.setIfInBounds_toArray, List.set_cons_zero, List.set_cons_succ]
    refine wpAnyH_take (i := 10) (v := undef) rfl (by kernel_rfl) (by kernel_rfl) (by kernel_rfl) (fun _ _ _ h => h) (Or.inr ⟨by kernel_rfl, rfl⟩) (by assumption) ?_
    try simp only [Act.put, List.getElem_toArray, List.getElem_cons_succ, List.getElem_cons_zero, List.setIfInBounds_toArray, List.set_cons_zero, List.set_cons_succ]
    refine wpAnyH_take (i := 11) (v := ?_) rfl (by kernel_rfl) (by kernel_rfl) (by kernel_rfl) (fun _ _ _ h => h) (Or.inl ⟨by kernel_rfl, ?_⟩) (by assumption) ?_
    rotate_left
    · (intro w hSw; (try dsimp only at hSw); (try obtain ⟨⟨c0, c1, c2, c3, c4, c5⟩, hH3, hB⟩ := hSw); go_simp); (try with_reducible rfl)
    try simp only [Act.put, List.getElem_toArray, List.getElem_cons_succ, List.getElem_cons_zero, List.setIfInBounds_toArray, List.set_cons_zero, List.set_cons_succ]
    refine wpAnyH_take (i := 12) (v := ?_) rfl (by kernel_rfl) (by kernel_rfl) (by kernel_rfl) (fun _ _ _ h => h) (Or.inl ⟨by kernel_rfl, ?_⟩) (by assumption) ?_
    rotate_left
    · (intro w hSw; (try dsimp only at hSw); (try obtain ⟨⟨c0, c1, c2, c3, c4, c5⟩, hH3, hB⟩ := hSw); go_simp); (try with_reducible rfl)
    try simp only [Act.put, List.getElem_toArray, List.getElem_cons_succ, List.getElem_cons_zero, List.setIfInBounds_toArray, List.set_cons_zero, List.set_cons_succ]
    refine wpAnyH_done (by kernel_rfl) ?_ _
    refine NoPanic.normal ?_
    go_wp2
    go_ret
    exact ⟨rfl, hHeld.2.2⟩

end Go.Proofs.YtaamhjjdhebjfaaGreatDoor
