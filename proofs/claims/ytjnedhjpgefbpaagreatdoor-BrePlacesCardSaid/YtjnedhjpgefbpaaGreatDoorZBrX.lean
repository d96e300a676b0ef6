/- What a set shows: what is only told, what is left, one byte: the walks. -/
import Derived.Test.YtjnedhjpgefbpaaGreatDoorZBrJ
import Derived.Test.YtjnedhjpgefbpaaGreatDoorZSetZ
namespace Go.Proofs.YtjnedhjpgefbpaaGreatDoor
open Go.RowKit
set_option linter.unusedVariables false
set_option linter.unusedSimpArgs false

set_option maxRecDepth 100000 in
set_option maxHeartbeats 8000000 in
theorem only_c (G : Nat → Bool) (c : Nat) (hc : c < 256) (t : List UInt8) (w : World) :
    Calls Tryz.prog 53 #[sv G, .int .u8 (c : Int), .string ⟨t.toArray⟩] w fun e w' => e = .returned (.string ⟨(if G c then t else []).toArray⟩) ∧ Below w.heap.size w w' := by
  have HH := Lib.hid fun w => has_c G c hc w
  have b0 : Below w.heap.size w (w.alloc (.cells #[.int .u64 (wd G 0), .int .u64 (wd G 1), .int .u64 (wd G 2), .int .u64 (wd G 3)] 44)) := (Below.refl _ w).alloc (Nat.le_refl _) _
  have B0 := Lib.hid b0
  clear b0
  unfold sv at HH ⊢
  cases hg : G c with
  | false =>
    rw [hg] at HH
    go_enter Tryz.func53, Tryz.ntmps53
    go_wp2_with fail
    refine (HH.out _).mono ?_
    rintro e w1 ⟨rfl, hB⟩
    have HB := Lib.hid (B0.out.trans (hB.mono B0.out.size))
    clear hB HH B0
    go_wp2
    go_ret
    exact ⟨rfl, HB.out⟩
  | true =>
    rw [hg] at HH
    go_enter Tryz.func53, Tryz.ntmps53
    go_wp2_with fail
    refine (HH.out _).mono ?_
    rintro e w1 ⟨rfl, hB⟩
    have HB := Lib.hid (B0.out.trans (hB.mono B0.out.size))
    clear hB HH B0
    go_wp2
    go_ret
    exact ⟨rfl, HB.out⟩

set_option maxRecDepth 100000 in
set_option maxHeartbeats 20000000 in
theorem less_c (F G : Nat → Bool) (w : World) :
    Calls Tryz.prog 55 #[sv F, sv G] w fun e w' => e = .returned (sv fun i => F i && !G i) ∧ Below w.heap.size w w' := by
  obtain ⟨w0, hw0⟩ : ∃ w0, w0 = (((w.alloc (.cells #[.int .u64 (wd F 0), .int .u64 (wd F 1), .int .u64 (wd F 2), .int .u64 (wd F 3)] 44)).alloc (.cells #[.int .u64 (wd G 0), .int .u64 (wd G 1), .int .u64 (wd G 2), .int .u64 (wd G 3)] 44)).alloc (.cells #[.int .u64 0, .int .u64 0, .int .u64 0, .int .u64 0] 44)) := ⟨_, rfl⟩
  have a0 := ((Four.new w 44 (.int .u64 (wd F 0)) (.int .u64 (wd F 1)) (.int .u64 (wd F 2)) (.int .u64 (wd F 3))).alloc (.cells #[.int .u64 (wd G 0), .int .u64 (wd G 1), .int .u64 (wd G 2), .int .u64 (wd G 3)] 44)).alloc (.cells #[.int .u64 0, .int .u64 0, .int .u64 0, .int .u64 0] 44)
  have g0 := (Four.new (w.alloc (.cells #[.int .u64 (wd F 0), .int .u64 (wd F 1), .int .u64 (wd F 2), .int .u64 (wd F 3)] 44)) 44 (.int .u64 (wd G 0)) (.int .u64 (wd G 1)) (.int .u64 (wd G 2)) (.int .u64 (wd G 3))).alloc (.cells #[.int .u64 0, .int .u64 0, .int .u64 0, .int .u64 0] 44)
  have r0 := Four.new ((w.alloc (.cells #[.int .u64 (wd F 0), .int .u64 (wd F 1), .int .u64 (wd F 2), .int .u64 (wd F 3)] 44)).alloc (.cells #[.int .u64 (wd G 0), .int .u64 (wd G 1), .int .u64 (wd G 2), .int .u64 (wd G 3)] 44)) 44 (.int .u64 0) (.int .u64 0) (.int .u64 0) (.int .u64 0)
  rw [World.size_alloc] at g0
  rw [World.size_alloc, World.size_alloc] at r0
  have b0 : Below w.heap.size w (((w.alloc (.cells #[.int .u64 (wd F 0), .int .u64 (wd F 1), .int .u64 (wd F 2), .int .u64 (wd F 3)] 44)).alloc (.cells #[.int .u64 (wd G 0), .int .u64 (wd G 1), .int .u64 (wd G 2), .int .u64 (wd G 3)] 44)).alloc (.cells #[.int .u64 0, .int .u64 0, .int .u64 0, .int .u64 0] 44)) := (((Below.refl _ w).alloc (Nat.le_refl _) _).alloc (by simp) _).alloc (by simp; omega) _
  rw [← hw0] at a0 g0 r0 b0
  obtain ⟨N, hN⟩ : ∃ N : Nat → Bool, N = fun i => !F i := ⟨_, rfl⟩
  obtain ⟨O, hO⟩ : ∃ O : Nat → Bool, O = fun i => N i || G i := ⟨_, rfl⟩
  obtain ⟨R, hR⟩ : ∃ R : Nat → Bool, R = fun i => !O i := ⟨_, rfl⟩
  have hfin : sv (fun i => F i && !G i) = sv R := sv_congr fun i _ => by rw [hR, hO, hN]; simp
  rw [hfin]
  have hn1 := fun w => not_c F w
  have hor := fun b cap w hb => or2_c N G b cap w 44 hb
  have hn2 := fun w => not_c O w
  simp only [← hN] at hn1
  simp only [← hO] at hor
  simp only [← hR] at hn2
  have H1 := Lib.hid hn1
  have H2 := Lib.hid hor
  have H3 := Lib.hid hn2
  have HW := Lib.hid hw0
  have A0 := Lib.hid a0
  have G0 := Lib.hid g0
  have R0 := Lib.hid r0
  have B0 := Lib.hid b0
  clear hfin hN hO hR hn1 hor hn2 hw0 a0 g0 r0 b0
  unfold sv at H1 H2 H3 ⊢
  go_enter Tryz.func55, Tryz.ntmps55
  go_wp2_with fail
  rw [← HW.out]
  clear HW
  refine wp_region_held_drew (S := fun w' => FourS w' w.heap.size F ∧ FourS w' (w.heap.size + 1) G) (by kernel_rfl) ⟨A0.out.drew, G0.out.drew⟩ (fun hHeld => ?_)
  refine wpAnyH_take (i := 0) (v := ?_) rfl (by kernel_rfl) (by kernel_rfl) (by kernel_rfl) (fun _ _ _ h => h) (Or.inl ⟨by kernel_rfl, ?_⟩) (by assumption) ?_
  rotate_left
  · (intro w hSw; (try dsimp only at hSw); have z0 := hSw.1.c0; have z1 := hSw.1.c1; have z2 := hSw.1.c2; have z3 := hSw.1.c3; go_simp); (try with_reducible rfl)
  try simp only [Act.put, List.getElem_toArray, List.getElem_cons_succ, List.getElem_cons_zero, List.setIfInBounds_toArray, List.set_cons_zero, List.set_cons_succ]
  refine wpAnyH_take (i := 2) (v := ?_) rfl (by kernel_rfl) (by kernel_rfl) (by kernel_rfl) (fun _ _ _ h => h) (Or.inl ⟨by kernel_rfl, ?_⟩) (by assumption) ?_
  rotate_left
  · (intro w hSw; (try dsimp only at hSw); have z0 := hSw.2.c0; have z1 := hSw.2.c1; have z2 := hSw.2.c2; have z3 := hSw.2.c3; go_simp); (try with_reducible rfl)
  try simp only [Act.put, List.getElem_toArray, List.getElem_cons_succ, List.getElem_cons_zero, List.setIfInBounds_toArray, List.set_cons_zero, List.set_cons_succ]
  refine wpAnyH_ready (rs := [1]) (by kernel_rfl) (by simp) ?_
  refine AllReadyH.cons rfl (fun K hK => ?_) AllReadyH.nil
  go_simp
  refine (H1.out _).mono ?_
  rintro e w1 ⟨rfl, hB1⟩
  have b01 : Below w0.heap.size w0 w1 := ((Below.refl _ w0).drew).trans hB1
  refine hK.out _ _ ?_ (fun hHeld => ?_)
  · exact ⟨A0.out.below b01 A0.out.lt, G0.out.below b01 G0.out.lt⟩
  clear hK K hB1
  try simp only [Act.put, List.getElem_toArray, List.getElem_cons_succ, List.getElem_cons_zero, List.setIfInBounds_toArray, List.set_cons_zero, List.set_cons_succ]
  have b02 := b01.alloc b01.size (.cells #[.int .u64 (wd N 0), .int .u64 (wd N 1), .int .u64 (wd N 2), .int .u64 (wd N 3), .int .u64 (wd G 0), .int .u64 (wd G 1), .int .u64 (wd G 2), .int .u64 (wd G 3)] 44)
  have hnew : (w1.alloc (.cells #[.int .u64 (wd N 0), .int .u64 (wd N 1), .int .u64 (wd N 2), .int .u64 (wd N 3), .int .u64 (wd G 0), .int .u64 (wd G 1), .int .u64 (wd G 2), .int .u64 (wd G 3)] 44)).heap[w1.heap.size]? = some (.cells #[.int .u64 (wd N 0), .int .u64 (wd N 1), .int .u64 (wd N 2), .int .u64 (wd N 3), .int .u64 (wd G 0), .int .u64 (wd G 1), .int .u64 (wd G 2), .int .u64 (wd G 3)] 44 (0, 0)) := heap_new w1 _
  have h2 := H2.out w1.heap.size 2 _ hnew
  have H2' := Lib.hid h2
  clear h2 hnew H2
  refine wpAnyH_ready (rs := [3]) (by kernel_rfl) (by simp) ?_
  refine AllReadyH.cons rfl (fun K hK => ?_) AllReadyH.nil
  go_simp
  refine hK.out _ _ ?_ (fun hHeld => ?_)
  · exact ⟨A0.out.below b02 A0.out.lt, G0.out.below b02 G0.out.lt⟩
  clear hK K
  try simp only [Act.put, List.getElem_toArray, List.getElem_cons_succ, List.getElem_cons_zero, List.setIfInBounds_toArray, List.set_cons_zero, List.set_cons_succ]
  refine wpAnyH_ready (rs := [4]) (by kernel_rfl) (by simp) ?_
  refine AllReadyH.cons rfl (fun K hK => ?_) AllReadyH.nil
  go_simp
  refine H2'.out.mono ?_
  rintro e w2 ⟨rfl, hB2⟩
  have b03 := b02.trans (hB2.mono b02.size)
  refine hK.out _ _ ?_ (fun hHeld => ?_)
  · exact ⟨A0.out.below b03 A0.out.lt, G0.out.below b03 G0.out.lt⟩
  clear hK K hB2 b02 H2'
  try simp only [Act.put, List.getElem_toArray, List.getElem_cons_succ, List.getElem_cons_zero, List.setIfInBounds_toArray, List.set_cons_zero, List.set_cons_succ]
  refine wpAnyH_ready (rs := [5]) (by kernel_rfl) (by simp) ?_
  refine AllReadyH.cons rfl (fun K hK => ?_) AllReadyH.nil
  go_simp
  refine (H3.out _).mono ?_
  rintro e w3 ⟨rfl, hB3⟩
  have b04 := b03.trans (hB3.mono b03.size)
  refine hK.out _ _ ?_ (fun hHeld => ?_)
  · exact ⟨A0.out.below b04 A0.out.lt, G0.out.below b04 G0.out.lt⟩
  clear hK K hB3 b03 b01
  try simp only [Act.put, List.getElem_toArray, List.getElem_cons_succ, List.getElem_cons_zero, List.setIfInBounds_toArray, List.set_cons_zero, List.set_cons_succ]
  have r4 := R0.out.below b04 R0.out.lt
  have r4c0 := r4.c0
  have r4c1 := r4.c1
  have r4c2 := r4.c2
  have r4c3 := r4.c3
  have r4f0 := r4.fz 0
  have r4f1 := r4.fz 1
  have r4f2 := r4.fz 2
  have r4f3 := r4.fz 3
  refine wpAnyH_ready (rs := [6]) (by kernel_rfl) (by simp) ?_
  refine AllReadyH.cons rfl (fun K hK => ?_) AllReadyH.nil
  go_simp
  refine hK.out _ _ ?_ (fun hHeld => ?_)
  · exact ⟨(A0.out.below b04 A0.out.lt).set4_other (by omega) _ _ _ _, (G0.out.below b04 G0.out.lt).set4_other (by omega) _ _ _ _⟩
  clear hK K
  try simp only [Act.put, List.getElem_toArray, List.getElem_cons_succ, List.getElem_cons_zero, List.setIfInBounds_toArray, List.set_cons_zero, List.set_cons_succ]
  refine wpAnyH_done (by kernel_rfl) ?_ _
  have q := FourS.set r4 R
  have qc0 := q.c0
  have qc1 := q.c1
  have qc2 := q.c2
  have qc3 := q.c3
  have hbf := Below.set4 (B0.out.trans (b04.mono B0.out.size)) (b := w.heap.size + 1 + 1) (by omega) (.int .u64 (wd R 0)) (.int .u64 (wd R 1)) (.int .u64 (wd R 2)) (.int .u64 (wd R 3))
  go_wp2
  refine bodyPost_ret (v := sv R) (by simp [results, Tryz.results55, go_sem, qc0, qc1, qc2, qc3, sv]) rfl ⟨rfl, hbf⟩

/-- Of no program: one byte, as it is shown. -/
def showOneP (c : UInt8) : List UInt8 := if c = 10 then [92, 110] else if c ∈ ([46, 91, 92, 42, 94, 36] : List UInt8) then [92, c] else [c]
theorem quoted_one : ∀ n : Nat, n < 256 → (decide (0 ≤ Lib.indexByte [46, 91, 92, 42, 94, 36] (UInt8.ofNat n)) = decide (UInt8.ofNat n ∈ ([46, 91, 92, 42, 94, 36] : List UInt8))) := by decide +kernel
set_option maxRecDepth 100000 in
set_option maxHeartbeats 8000000 in
theorem showone_c (c : UInt8) (w : World) :
    Calls Tryz.prog 37 #[.string ⟨#[c]⟩] w fun e w' => e = .returned (.string ⟨(showOneP c).toArray⟩) ∧ Below w.heap.size w w' := by
  have hcl := c.toNat_lt
  by_cases h10 : c = 10
  · subst h10
    go_enter Tryz.func37, Tryz.ntmps37
    go_wp2
    go_ret
    exact ⟨rfl, Below.refl _ _⟩
  · have hq : (c == 10) = false := by simpa using h10
    have hq2 : ¬ c = 10 := h10
    have q := quoted_one c.toNat (by omega)
    rw [show UInt8.ofNat c.toNat = c by simp] at q
    have HC := Lib.hid fun w => Tryz.strings_Contains_one ⟨#[46, 91, 92, 42, 94, 36]⟩ c w
    have e1 : (⟨#[46, 91, 92, 42, 94, 36]⟩ : ByteArray).data.toList = [46, 91, 92, 42, 94, 36] := rfl
    rw [e1, q] at HC
    clear e1 q
    by_cases hin : c ∈ ([46, 91, 92, 42, 94, 36] : List UInt8)
    · rw [decide_eq_true hin] at HC
      have hr : showOneP c = [92, c] := by unfold showOneP; rw [if_neg h10, if_pos hin]
      rw [hr]
      clear hr hin
      go_enter Tryz.func37, Tryz.ntmps37
      go_wp2_with fail
      refine (HC.out _).mono ?_
      rintro e w1 ⟨rfl, rfl⟩
      go_wp2
      go_ret
      exact ⟨rfl, Below.refl _ _⟩
    · rw [decide_eq_false hin] at HC
      have hr : showOneP c = [c] := by unfold showOneP; rw [if_neg h10, if_neg hin]
      rw [hr]
      clear hr hin
      go_enter Tryz.func37, Tryz.ntmps37
      go_wp2_with fail
      refine (HC.out _).mono ?_
      rintro e w1 ⟨rfl, rfl⟩
      go_wp2
      go_ret
      exact ⟨rfl, Below.refl _ _⟩

end Go.Proofs.YtjnedhjpgefbpaaGreatDoor
