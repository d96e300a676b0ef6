/- slices.Equal of nodes: the walk. -/
import Derived.Test.YthbldjiibgnfmaaGreatDoorZRxK
import Derived.Test.YthbldjiibgnfmaaGreatDoorZBrL
import Derived.BigQuiet
import Derived.Test.YthbldjiibgnfmaaGreatDoorZBrJ
import Derived.Test.YthbldjiibgnfmaaGreatDoorZSetZ
namespace Go.Proofs.YthbldjiibgnfmaaGreatDoor
open Go.RowKit
set_option linter.unusedVariables false
set_option linter.unusedSimpArgs false

set_option maxRecDepth 100000 in
set_option maxHeartbeats 40000000 in
theorem equal_in (b o cap b' o' cap' n : Nat) (xs ys : List Nd) (hlx : xs.length = n) (hly : ys.length = n) (hn : n ≤ 1000) (hfx : ∀ (i : Nat) (x : Nd), xs[i]? = some x → x.Fits) (hfy : ∀ (i : Nat) (x : Nd), ys[i]? = some x → x.Fits) (w : World) (hx : NodesAt w b o xs) (hy : NodesAt w b' o' ys) :
    Calls Tryz.prog 28 #[.slice (some ⟨b, o, none⟩) n cap, .slice (some ⟨b', o', none⟩) n cap'] w fun e w' => e = .returned (.bool (decide (xs = ys))) ∧ Below w.heap.size w w' := by
  have HFX := Lib.hid hfx
  have HFY := Lib.hid hfy
  obtain ⟨r, hr⟩ : ∃ r, r = decide (xs = ys) := ⟨_, rfl⟩
  rw [← hr]
  have HR := Lib.hid hr
  clear hfx hfy hr
  go_enter Tryz.func28, Tryz.ntmps28
  go_wp2
  go_loopw [13] (fun i wr => ∃ k : Nat, k ≤ n ∧ i = .int .i64 k ∧ (∀ j, j < k → xs[j]? = ys[j]?) ∧ Below w.heap.size w wr) (fun i _ => n - (RowKit.intOf i).toNat)
  case atStart => exact ⟨0, by omega, rfl, fun j hj => absurd hj (by omega), Below.refl _ _⟩
  case round =>
    obtain ⟨k, hk, rfl, hg, hB⟩ := hrel
    by_cases hlt : k < n
    · obtain ⟨x, hxk⟩ : ∃ x, xs[k]? = some x := ⟨xs[k]'(by omega), List.getElem?_eq_getElem (by omega)⟩
      obtain ⟨y, hyk⟩ : ∃ x, ys[k]? = some x := ⟨ys[k]'(by omega), List.getElem?_eq_getElem (by omega)⟩
      have hq := fun W => eq_nd x y (HFX.out k x hxk) (HFY.out k y hyk) W
      have hgl : x = y → ∀ j, j < k + 1 → xs[j]? = ys[j]? := fun e j hj => by
        by_cases e2 : j = k
        · subst e2; rw [hxk, hyk, e]
        · exact hg j (by omega)
      have hgf : x ≠ y → r = false := fun e => by
        rw [HR.out, decide_eq_false_iff_not]
        intro e2
        rw [e2, hyk] at hxk
        exact e (Option.some.inj hxk).symm
      have d := (hx.below hB hx.lt).cell k x hxk
      have e := (hy.below hB hy.lt).cell k y hyk
      have lB := hB.size
      obtain ⟨kd, w0, w1, w2, w3, xa, xb, m, M, xn⟩ := x
      obtain ⟨kd', w0', w1', w2', w3', xa', xb', m', M', xn'⟩ := y
      have d0 : wr.cell? ⟨b, o + k * 10, none⟩ = some (.int .i64 kd) := d 0 _ rfl
      have d1 : wr.cell? ⟨b, o + k * 10 + 1, none⟩ = some (.int .u64 w0) := d 1 _ rfl
      have d2 : wr.cell? ⟨b, o + k * 10 + 2, none⟩ = some (.int .u64 w1) := d 2 _ rfl
      have d3 : wr.cell? ⟨b, o + k * 10 + 3, none⟩ = some (.int .u64 w2) := d 3 _ rfl
      have d4 : wr.cell? ⟨b, o + k * 10 + 4, none⟩ = some (.int .u64 w3) := d 4 _ rfl
      have d5 : wr.cell? ⟨b, o + k * 10 + 5, none⟩ = some (.int .i64 xa) := d 5 _ rfl
      have d6 : wr.cell? ⟨b, o + k * 10 + 6, none⟩ = some (.int .i64 xb) := d 6 _ rfl
      have d7 : wr.cell? ⟨b, o + k * 10 + 7, none⟩ = some (.int .i64 m) := d 7 _ rfl
      have d8 : wr.cell? ⟨b, o + k * 10 + 8, none⟩ = some (.int .i64 M) := d 8 _ rfl
      have d9 : wr.cell? ⟨b, o + k * 10 + 9, none⟩ = some (.int .i64 xn) := d 9 _ rfl
      have e0 : wr.cell? ⟨b', o' + k * 10, none⟩ = some (.int .i64 kd') := e 0 _ rfl
      have e1 : wr.cell? ⟨b', o' + k * 10 + 1, none⟩ = some (.int .u64 w0') := e 1 _ rfl
      have e2 : wr.cell? ⟨b', o' + k * 10 + 2, none⟩ = some (.int .u64 w1') := e 2 _ rfl
      have e3 : wr.cell? ⟨b', o' + k * 10 + 3, none⟩ = some (.int .u64 w2') := e 3 _ rfl
      have e4 : wr.cell? ⟨b', o' + k * 10 + 4, none⟩ = some (.int .u64 w3') := e 4 _ rfl
      have e5 : wr.cell? ⟨b', o' + k * 10 + 5, none⟩ = some (.int .i64 xa') := e 5 _ rfl
      have e6 : wr.cell? ⟨b', o' + k * 10 + 6, none⟩ = some (.int .i64 xb') := e 6 _ rfl
      have e7 : wr.cell? ⟨b', o' + k * 10 + 7, none⟩ = some (.int .i64 m') := e 7 _ rfl
      have e8 : wr.cell? ⟨b', o' + k * 10 + 8, none⟩ = some (.int .i64 M') := e 8 _ rfl
      have e9 : wr.cell? ⟨b', o' + k * 10 + 9, none⟩ = some (.int .i64 xn') := e 9 _ rfl
      clear d e hxk hyk hg
      unfold Nd.v Nd.cells at hq
      dsimp only at hq
      have HGL := Lib.hid hgl
      have HGF := Lib.hid hgf
      clear hgl hgf HR HFX HFY
      by_cases hxy : (⟨kd, w0, w1, w2, w3, xa, xb, m, M, xn⟩ : Nd) = ⟨kd', w0', w1', w2', w3', xa', xb', m', M', xn'⟩
      · rw [decide_eq_true hxy] at hq
        have HG := Lib.hid (HGL.out hxy)
        clear hxy HGL HGF
        go_wp2_with fail
        go_quiet (fail)
        go_wp2
        go_roundw
        case rel => exact ⟨k + 1, by omega, by simp, HG.out, Go.below_drewN hB _⟩
        case measure => (simp [RowKit.intOf]) <;> omega
      · rw [decide_eq_false hxy] at hq
        obtain rfl := HGF.out hxy
        clear hxy HGL HGF
        go_wp2_with fail
        go_quiet (fail)
        go_wp2
        go_ret
        exact ⟨rfl, Go.below_drewN hB _⟩
    · obtain rfl : k = n := by omega
      obtain rfl : r = true := by
        rw [HR.out, decide_eq_true_iff]
        apply List.ext_getElem?
        intro i
        rcases Nat.lt_or_ge i k with h | h
        · exact hg i h
        · rw [List.getElem?_eq_none (by omega), List.getElem?_eq_none (by omega)]
      clear HR HFX HFY hg
      go_wp2
      go_ret
      exact ⟨rfl, hB⟩

set_option maxRecDepth 100000 in
set_option maxHeartbeats 4000000 in
theorem equal_out (p q : Option Addr) (n m cap cap' : Nat) (hne : n ≠ m) (hn : n < 9223372036854775807) (hm : m < 9223372036854775807) (w : World) :
    Calls Tryz.prog 28 #[.slice p n cap, .slice q m cap'] w fun e w' => e = .returned (.bool false) ∧ Below w.heap.size w w' := by
  have h1 : ((n : Int) == (m : Int)) = false := by rw [beq_eq_false_iff_ne]; omega
  have h2 : ((n : Int) != (m : Int)) = true := by rw [bne_iff_ne]; omega
  clear hne
  go_enter Tryz.func28, Tryz.ntmps28
  go_wp2
  go_ret
  exact ⟨rfl, Below.refl _ _⟩

set_option maxRecDepth 100000 in
set_option maxHeartbeats 4000000 in
theorem equal_nil (p q : Option Addr) (cap cap' : Nat) (w : World) :
    Calls Tryz.prog 28 #[.slice p 0 cap, .slice q 0 cap'] w fun e w' => e = .returned (.bool true) ∧ Below w.heap.size w w' := by
  go_enter Tryz.func28, Tryz.ntmps28
  go_wp2
  go_loopw [13] (fun i wr => i = .int .i64 0 ∧ Below w.heap.size w wr) (fun i _ => 0)
  case atStart => exact ⟨rfl, Below.refl _ _⟩
  case round =>
    obtain ⟨rfl, hB⟩ := hrel
    go_wp2
    go_ret
    exact ⟨rfl, hB⟩

/-- **slices.Equal of two rows of nodes.** -/
theorem equal_c (p q : Option Addr) (n m cap cap' : Nat) (xs ys : List Nd) (hn : n ≤ 1000) (w : World) (hx : Nodes w p n xs) (hy : Nodes w q m ys) :
    Calls Tryz.prog 28 #[.slice p n cap, .slice q m cap'] w fun e w' => e = .returned (.bool (decide (xs = ys))) ∧ Below w.heap.size w w' := by
  by_cases hnm : n = m
  · subst hnm
    by_cases h1 : 1 ≤ n
    · obtain ⟨b, o, rfl⟩ := hx.ptr h1
      obtain ⟨b', o', rfl⟩ := hy.ptr h1
      exact equal_in b o cap b' o' cap' n xs ys hx.len hy.len hn hx.fits hy.fits w (hx.at' h1 b o rfl) (hy.at' h1 b' o' rfl)
    · obtain rfl : n = 0 := by omega
      have e1 := List.eq_nil_of_length_eq_zero hx.len
      have e2 := List.eq_nil_of_length_eq_zero hy.len
      subst e1; subst e2
      exact equal_nil p q cap cap' w
  · have hne : xs ≠ ys := fun e => hnm (by rw [← hx.len, ← hy.len, e])
    rw [decide_eq_false hne]
    exact equal_out p q n m cap cap' hnm hx.small hy.small w

end Go.Proofs.YthbldjiibgnfmaaGreatDoor

namespace Go.Proofs.YthbldjiibgnfmaaGreatDoor
open Go.RowKit
set_option linter.unusedVariables false
set_option linter.unusedSimpArgs false

set_option maxRecDepth 100000 in
set_option maxHeartbeats 8000000 in
theorem only_c (G : Nat → Bool) (c : Nat) (hc : c < 256) (t : List UInt8) (w : World) :
    Calls Tryz.prog 39 #[sv G, .int .u8 (c : Int), .string ⟨t.toArray⟩] w fun e w' => e = .returned (.string ⟨(if G c then t else []).toArray⟩) ∧ Below w.heap.size w w' := by
  have HH := Lib.hid fun w => has_c G c hc w
  have b0 : Below w.heap.size w (w.alloc (.cells #[.int .u64 (wd G 0), .int .u64 (wd G 1), .int .u64 (wd G 2), .int .u64 (wd G 3)] 24)) := (Below.refl _ w).alloc (Nat.le_refl _) _
  have B0 := Lib.hid b0
  clear b0
  unfold sv at HH ⊢
  cases hg : G c with
  | false =>
    rw [hg] at HH
    go_enter Tryz.func39, Tryz.ntmps39
    go_wp2_with fail
    refine (HH.out _).mono ?_
    rintro e w1 ⟨rfl, hB⟩
    have HB := Lib.hid (B0.out.trans (hB.mono B0.out.size))
    clear hB HH B0
    go_wp2
    go_ret
    exact ⟨rfl, HB.out⟩
  | true =>
    rw [hg] at HH
    go_enter Tryz.func39, Tryz.ntmps39
    go_wp2_with fail
    refine (HH.out _).mono ?_
    rintro e w1 ⟨rfl, hB⟩
    have HB := Lib.hid (B0.out.trans (hB.mono B0.out.size))
    clear hB HH B0
    go_wp2
    go_ret
    exact ⟨rfl, HB.out⟩

set_option maxRecDepth 100000 in
set_option maxHeartbeats 20000000 in
theorem less_c (F G : Nat → Bool) (w : World) :
    Calls Tryz.prog 41 #[sv F, sv G] w fun e w' => e = .returned (sv fun i => F i && !G i) ∧ Below w.heap.size w w' := by
  obtain ⟨w0, hw0⟩ : ∃ w0, w0 = (((w.alloc (.cells #[.int .u64 (wd F 0), .int .u64 (wd F 1), .int .u64 (wd F 2), .int .u64 (wd F 3)] 24)).alloc (.cells #[.int .u64 (wd G 0), .int .u64 (wd G 1), .int .u64 (wd G 2), .int .u64 (wd G 3)] 24)).alloc (.cells #[.int .u64 0, .int .u64 0, .int .u64 0, .int .u64 0] 24)) := ⟨_, rfl⟩
  have a0 := ((Four.new w 24 (.int .u64 (wd F 0)) (.int .u64 (wd F 1)) (.int .u64 (wd F 2)) (.int .u64 (wd F 3))).alloc (.cells #[.int .u64 (wd G 0), .int .u64 (wd G 1), .int .u64 (wd G 2), .int .u64 (wd G 3)] 24)).alloc (.cells #[.int .u64 0, .int .u64 0, .int .u64 0, .int .u64 0] 24)
  have g0 := (Four.new (w.alloc (.cells #[.int .u64 (wd F 0), .int .u64 (wd F 1), .int .u64 (wd F 2), .int .u64 (wd F 3)] 24)) 24 (.int .u64 (wd G 0)) (.int .u64 (wd G 1)) (.int .u64 (wd G 2)) (.int .u64 (wd G 3))).alloc (.cells #[.int .u64 0, .int .u64 0, .int .u64 0, .int .u64 0] 24)
  have r0 := Four.new ((w.alloc (.cells #[.int .u64 (wd F 0), .int .u64 (wd F 1), .int .u64 (wd F 2), .int .u64 (wd F 3)] 24)).alloc (.cells #[.int .u64 (wd G 0), .int .u64 (wd G 1), .int .u64 (wd G 2), .int .u64 (wd G 3)] 24)) 24 (.int .u64 0) (.int .u64 0) (.int .u64 0) (.int .u64 0)
  rw [World.size_alloc] at g0
  rw [World.size_alloc, World.size_alloc] at r0
  have b0 : Below w.heap.size w (((w.alloc (.cells #[.int .u64 (wd F 0), .int .u64 (wd F 1), .int .u64 (wd F 2), .int .u64 (wd F 3)] 24)).alloc (.cells #[.int .u64 (wd G 0), .int .u64 (wd G 1), .int .u64 (wd G 2), .int .u64 (wd G 3)] 24)).alloc (.cells #[.int .u64 0, .int .u64 0, .int .u64 0, .int .u64 0] 24)) := (((Below.refl _ w).alloc (Nat.le_refl _) _).alloc (by simp) _).alloc (by simp; omega) _
  rw [← hw0] at a0 g0 r0 b0
  obtain ⟨N, hN⟩ : ∃ N : Nat → Bool, N = fun i => !F i := ⟨_, rfl⟩
  obtain ⟨O, hO⟩ : ∃ O : Nat → Bool, O = fun i => N i || G i := ⟨_, rfl⟩
  obtain ⟨R, hR⟩ : ∃ R : Nat → Bool, R = fun i => !O i := ⟨_, rfl⟩
  have hfin : sv (fun i => F i && !G i) = sv R := sv_congr fun i _ => by rw [hR, hO, hN]; simp
  rw [hfin]
  have hn1 := fun w => not_c F w
  have hor := fun b cap w hb => or2_c N G b cap w 24 hb
  have hn2 := fun w => not_c O w
  simp only [← hN] at hn1
  simp only [← hO] at hor
  simp only [← hR] at hn2
  have H1 := Lib.hid hn1
  have H2 := Lib.hid hor
  have H3 := Lib.hid hn2
  have HW := Lib.hid hw0
  have A0 := Lib.hid a0
  have G0 := Lib.hid g0
  have R0 := Lib.hid r0
  have B0 := Lib.hid b0
  clear hfin hN hO hR hn1 hor hn2 hw0 a0 g0 r0 b0
  unfold sv at H1 H2 H3 ⊢
  go_enter Tryz.func41, Tryz.ntmps41
  go_wp2_with fail
  rw [← HW.out]
  clear HW
  refine wp_region_held_drew (S := fun w' => FourS w' w.heap.size F ∧ FourS w' (w.heap.size + 1) G) (by kernel_rfl) ⟨A0.out.drew, G0.out.drew⟩ (fun hHeld => ?_)
  refine wpAnyH_take (i := 0) (v := ?_) rfl (by kernel_rfl) (by kernel_rfl) (by kernel_rfl) (fun _ _ _ h => h) (Or.inl ⟨by kernel_rfl, ?_⟩) (by assumption) ?_
  rotate_left
  · (intro w hSw; (try dsimp only at hSw); have z0 := hSw.1.c0; have z1 := hSw.1.c1; have z2 := hSw.1.c2; have z3 := hSw.1.c3; go_simp); (try with_reducible rfl)
  try simp only [Act.put, List.getElem_toArray, List.getElem_cons_succ, List.getElem_cons_zero, List.setIfInBounds_toArray, List.set_cons_zero, List.set_cons_succ]
  refine wpAnyH_take (i := 2) (v := ?_) rfl (by kernel_rfl) (by kernel_rfl) (by kernel_rfl) (fun _ _ _ h => h) (Or.inl ⟨by kernel_rfl, ?_⟩) (by assumption) ?_
  rotate_left
  · (intro w hSw; (try dsimp only at hSw); have z0 := hSw.2.c0; have z1 := hSw.2.c1; have z2 := hSw.2.c2; have z3 := hSw.2.c3; go_simp); (try with_reducible rfl)
  try simp only [Act.put, List.getElem_toArray, List.getElem_cons_succ, List.getElem_cons_zero, List.setIfInBounds_toArray, List.set_cons_zero, List.set_cons_succ]
  refine wpAnyH_ready (rs := [1]) (by kernel_rfl) (by simp) ?_
  refine AllReadyH.cons rfl (fun K hK => ?_) AllReadyH.nil
  go_simp
  refine (H1.out _).mono ?_
  rintro e w1 ⟨rfl, hB1⟩
  have b01 : Below w0.heap.size w0 w1 := ((Below.refl _ w0).drew).trans hB1
  refine hK.out _ _ ?_ (fun hHeld => ?_)
  · exact ⟨A0.out.below b01 A0.out.lt, G0.out.below b01 G0.out.lt⟩
  clear hK K hB1
  try simp only [Act.put, List.getElem_toArray, List.getElem_cons_succ, List.getElem_cons_zero, List.setIfInBounds_toArray, List.set_cons_zero, List.set_cons_succ]
  have b02 := b01.alloc b01.size (.cells #[.int .u64 (wd N 0), .int .u64 (wd N 1), .int .u64 (wd N 2), .int .u64 (wd N 3), .int .u64 (wd G 0), .int .u64 (wd G 1), .int .u64 (wd G 2), .int .u64 (wd G 3)] 24)
  have hnew : (w1.alloc (.cells #[.int .u64 (wd N 0), .int .u64 (wd N 1), .int .u64 (wd N 2), .int .u64 (wd N 3), .int .u64 (wd G 0), .int .u64 (wd G 1), .int .u64 (wd G 2), .int .u64 (wd G 3)] 24)).heap[w1.heap.size]? = some (.cells #[.int .u64 (wd N 0), .int .u64 (wd N 1), .int .u64 (wd N 2), .int .u64 (wd N 3), .int .u64 (wd G 0), .int .u64 (wd G 1), .int .u64 (wd G 2), .int .u64 (wd G 3)] 24 (0, 0)) := heap_new w1 _
  have h2 := H2.out w1.heap.size 2 _ hnew
  have H2' := Lib.hid h2
  clear h2 hnew H2
  refine wpAnyH_ready (rs := [3]) (by kernel_rfl) (by simp) ?_
  refine AllReadyH.cons rfl (fun K hK => ?_) AllReadyH.nil
  go_simp
  refine hK.out _ _ ?_ (fun hHeld => ?_)
  · exact ⟨A0.out.below b02 A0.out.lt, G0.out.below b02 G0.out.lt⟩
  clear hK K
  try simp only [Act.put, List.getElem_toArray, List.getElem_cons_succ, List.getElem_cons_zero, List.setIfInBounds_toArray, List.set_cons_zero, List.set_cons_succ]
  refine wpAnyH_ready (rs := [4]) (by kernel_rfl) (by simp) ?_
  refine AllReadyH.cons rfl (fun K hK => ?_) AllReadyH.nil
  go_simp
  refine H2'.out.mono ?_
  rintro e w2 ⟨rfl, hB2⟩
  have b03 := b02.trans (hB2.mono b02.size)
  refine hK.out _ _ ?_ (fun hHeld => ?_)
  · exact ⟨A0.out.below b03 A0.out.lt, G0.out.below b03 G0.out.lt⟩
  clear hK K hB2 b02 H2'
  try simp only [Act.put, List.getElem_toArray, List.getElem_cons_succ, List.getElem_cons_zero, List.setIfInBounds_toArray, List.set_cons_zero, List.set_cons_succ]
  refine wpAnyH_ready (rs := [5]) (by kernel_rfl) (by simp) ?_
  refine AllReadyH.cons rfl (fun K hK => ?_) AllReadyH.nil
  go_simp
  refine (H3.out _).mono ?_
  rintro e w3 ⟨rfl, hB3⟩
  have b04 := b03.trans (hB3.mono b03.size)
  refine hK.out _ _ ?_ (fun hHeld => ?_)
  · exact ⟨A0.out.below b04 A0.out.lt, G0.out.below b04 G0.out.lt⟩
  clear hK K hB3 b03 b01
  try simp only [Act.put, List.getElem_toArray, List.getElem_cons_succ, List.getElem_cons_zero, List.setIfInBounds_toArray, List.set_cons_zero, List.set_cons_succ]
  have r4 := R0.out.below b04 R0.out.lt
  have r4c0 := r4.c0
  have r4c1 := r4.c1
  have r4c2 := r4.c2
  have r4c3 := r4.c3
  have r4f0 := r4.fz 0
  have r4f1 := r4.fz 1
  have r4f2 := r4.fz 2
  have r4f3 := r4.fz 3
  refine wpAnyH_ready (rs := [6]) (by kernel_rfl) (by simp) ?_
  refine AllReadyH.cons rfl (fun K hK => ?_) AllReadyH.nil
  go_simp
  refine hK.out _ _ ?_ (fun hHeld => ?_)
  · exact ⟨(A0.out.below b04 A0.out.lt).set4_other (by omega) _ _ _ _, (G0.out.below b04 G0.out.lt).set4_other (by omega) _ _ _ _⟩
  clear hK K
  try simp only [Act.put, List.getElem_toArray, List.getElem_cons_succ, List.getElem_cons_zero, List.setIfInBounds_toArray, List.set_cons_zero, List.set_cons_succ]
  refine wpAnyH_done (by kernel_rfl) ?_ _
  have q := FourS.set r4 R
  have qc0 := q.c0
  have qc1 := q.c1
  have qc2 := q.c2
  have qc3 := q.c3
  have hbf := Below.set4 (B0.out.trans (b04.mono B0.out.size)) (b := w.heap.size + 1 + 1) (by omega) (.int .u64 (wd R 0)) (.int .u64 (wd R 1)) (.int .u64 (wd R 2)) (.int .u64 (wd R 3))
  go_wp2
  refine bodyPost_ret (v := sv R) (by simp [results, Tryz.results41, go_sem, qc0, qc1, qc2, qc3, sv]) rfl ⟨rfl, hbf⟩

/-- Of no program: one byte, as it is shown. -/
def showOneP (c : UInt8) : List UInt8 := if c = 10 then [92, 110] else if c ∈ ([46, 91, 92, 42, 94, 36] : List UInt8) then [92, c] else [c]
theorem quoted_one : ∀ n : Nat, n < 256 → (decide (0 ≤ Lib.indexByte [46, 91, 92, 42, 94, 36] (UInt8.ofNat n)) = decide (UInt8.ofNat n ∈ ([46, 91, 92, 42, 94, 36] : List UInt8))) := by decide +kernel
set_option maxRecDepth 100000 in
set_option maxHeartbeats 8000000 in
theorem showone_c (c : UInt8) (w : World) :
    Calls Tryz.prog 17 #[.string ⟨#[c]⟩] w fun e w' => e = .returned (.string ⟨(showOneP c).toArray⟩) ∧ Below w.heap.size w w' := by
  have hcl := c.toNat_lt
  by_cases h10 : c = 10
  · subst h10
    go_enter Tryz.func17, Tryz.ntmps17
    go_wp2
    go_ret
    exact ⟨rfl, Below.refl _ _⟩
  · have hq : (c == 10) = false := by simpa using h10
    have hq2 : ¬ c = 10 := h10
    have q := quoted_one c.toNat (by omega)
    rw [show UInt8.ofNat c.toNat = c by simp] at q
    have HC := Lib.hid fun w => Tryz.strings_Contains_one ⟨#[46, 91, 92, 42, 94, 36]⟩ c w
    have e1 : (⟨#[46, 91, 92, 42, 94, 36]⟩ : ByteArray).data.toList = [46, 91, 92, 42, 94, 36] := rfl
    rw [e1, q] at HC
    clear e1 q
    by_cases hin : c ∈ ([46, 91, 92, 42, 94, 36] : List UInt8)
    · rw [decide_eq_true hin] at HC
      have hr : showOneP c = [92, c] := by unfold showOneP; rw [if_neg h10, if_pos hin]
      rw [hr]
      clear hr hin
      go_enter Tryz.func17, Tryz.ntmps17
      go_wp2_with fail
      refine (HC.out _).mono ?_
      rintro e w1 ⟨rfl, rfl⟩
      go_wp2
      go_ret
      exact ⟨rfl, Below.refl _ _⟩
    · rw [decide_eq_false hin] at HC
      have hr : showOneP c = [c] := by unfold showOneP; rw [if_neg h10, if_neg hin]
      rw [hr]
      clear hr hin
      go_enter Tryz.func17, Tryz.ntmps17
      go_wp2_with fail
      refine (HC.out _).mono ?_
      rintro e w1 ⟨rfl, rfl⟩
      go_wp2
      go_ret
      exact ⟨rfl, Below.refl _ _⟩

end Go.Proofs.YthbldjiibgnfmaaGreatDoor
