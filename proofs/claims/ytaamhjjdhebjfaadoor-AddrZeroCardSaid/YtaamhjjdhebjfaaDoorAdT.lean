/- AddrZero: the walk. -/
import Derived.Test.YtaamhjjdhebjfaaDoorAdP
namespace Go.Proofs.YtaamhjjdhebjfaaDoor
open Go.RowKit Go.Lib
set_option linter.unusedVariables false
set_option linter.unusedSimpArgs false

def zeR (m : Nat) : Rg := ⟨⟨1, m, 0⟩, ⟨4, 0, 0⟩, false⟩
def zeS (ov : Bool) (k : Nat) : Bool × Int := (!ov && decide (0 < k), 0)
theorem zeR_nums (m : Nat) : (zeR m).Nums := ⟨fun h => absurd h (by simp [zeR]), by simp [zeR], by simp [zeR]⟩
theorem ze_step (m k : Nat) (ov L x : Bool) (hm : m ≤ 1) (h0 : k = 0 → ov = false) : askA (zeR m) (zeS ov k) ((k : Int) + 1) L [x] = (!ov, zeS (ov || (x && (decide (0 < k) || decide (m = 0)))) (k + 1)) := by
  have e0 : askA (zeR m) (zeS ov k) ((k : Int) + 1) L [x] = if (zeS ov k).1 then goA (zeR m) (zeS ov k) ((k : Int) + 1) L [x] else if ((1 : Int) = 1 ∧ (m : Int) = 0) ∧ (k : Int) + 1 = 1 then goA (zeR m) (true, 0) ((k : Int) + 1) L [x] else if hitA ⟨1, m, 0⟩ ((k : Int) + 1) L [x] then (true, begA ⟨4, 0, 0⟩ ((k : Int) + 1) L) else (false, zeS ov k) := rfl
  have e1 : ∀ s, goA (zeR m) s ((k : Int) + 1) L [x] = if (4 : Int) = 1 ∧ s.2 < (k : Int) + 1 then (hitA ⟨1, m, 0⟩ ((k : Int) + 1) L [x], false, 0) else if endA ⟨4, 0, 0⟩ s ((k : Int) + 1) L [x] then (true, false, 0) else (true, s) := fun s => rfl
  have e2 : ∀ s, endA ⟨4, 0, 0⟩ s ((k : Int) + 1) L [x] = x := fun s => by
    have : endA ⟨4, 0, 0⟩ s ((k : Int) + 1) L [x] = hasAt [x] 0 := rfl
    rw [this]; exact hasAt_in (n := 0) rfl
  have e3 : hitA ⟨1, m, 0⟩ ((k : Int) + 1) L [x] = decide (k + 1 = m) := by
    have : hitA ⟨1, m, 0⟩ ((k : Int) + 1) L [x] = decide ((k : Int) + 1 = m) := rfl
    rw [this, Bool.eq_iff_iff]; simp only [decide_eq_true_eq]; omega
  have e4 : begA ⟨4, 0, 0⟩ ((k : Int) + 1) L = (true, 0) := rfl
  have e5 : ∀ s, goA (zeR m) s ((k : Int) + 1) L [x] = if x then (true, false, 0) else (true, s) := fun s => by rw [e1, if_neg (by omega), e2]
  rw [e0, e5, e5, e3, e4]
  by_cases hk : k = 0
  · subst hk
    obtain rfl := h0 rfl
    rw [show (zeS false 0).1 = false from rfl, if_neg (by simp)]
    by_cases hm0 : m = 0
    · subst hm0
      rw [if_pos (by simp)]
      cases x <;> rfl
    · obtain rfl : m = 1 := by omega
      rw [if_neg (by simp), if_pos (by simp)]
      cases x <;> rfl
  · cases ov
    · rw [show (zeS false k).1 = true by simp [zeS]; omega, if_pos rfl]
      have hp : 0 < k := by omega
      cases x <;> simp [zeS, hp]
    · rw [show (zeS true k).1 = false by simp [zeS], if_neg (by simp), if_neg (by omega), if_neg (by simp; omega)]
      simp [zeS]

theorem bls_one {w : World} {b o ln cap k : Nat} {H : List Bool} {x : Bool} (h : Bls w (some ⟨b, o, none⟩) ln cap H) (hx : H[k]? = some x) : Bls w (some ⟨b, o + k, none⟩) 1 (cap - k) [x] := by
  have hk := (List.getElem?_eq_some_iff.1 hx).1
  have h1 := h.len
  have h2 := h.le
  have h3 := h.capm
  refine ⟨rfl, by omega, by omega, fun _ => ⟨b, o + k, rfl⟩, fun _ b' o' e => ?_, fun b' o' e i y hy => ?_⟩
  · simp only [Option.some.injEq, Addr.mk.injEq] at e
    obtain ⟨rfl, _⟩ := e
    exact h.lt (by omega) b o rfl
  · simp only [Option.some.injEq, Addr.mk.injEq] at e
    obtain ⟨rfl, rfl, _⟩ := e
    obtain rfl : i = 0 := by have := (List.getElem?_eq_some_iff.1 hy).1; simp at this; omega
    obtain rfl : x = y := by simpa using hy
    exact h.cell b o rfl k x hx
theorem elemB : Tryd.prog.elem 24 = 4 := by kernel_rfl
set_option maxRecDepth 100000 in
theorem sizeB (w : World) : (sizeOf 4).run Tryd.prog w = .ok 1 w := by
  simp [go_sem]
  try rfl
set_option maxRecDepth 100000 in
theorem slice_bools (b o ln cap k : Nat) (h1 : k + 1 ≤ ln) (h2 : ln ≤ cap) (h3 : cap ≤ maxLen) (w : World) : (Instr.slice 24 (.slice (some ⟨b, o, none⟩) ln cap) (some (.int .i64 (k : Int))) (some (.int .i64 ((k : Int) + 1))) none).run Tryd.prog w = .ok (.slice (some ⟨b, o + k, none⟩) 1 (cap - k)) w := by
  rw [run_slice_lh (P := Tryd.prog) (w := w) 24 (some ⟨b, o, none⟩) ln cap Tryd.underlying24 .i64 .i64 (k : Int) ((k : Int) + 1) (by omega) (by omega) (by omega), elemB, sizeB]
  simp only [Result.andThen_ok, sliced, Int.toNat_natCast]
  rw [if_neg (by omega), show ((k : Int) + 1).toNat - k = 1 by omega]
  simp [Addr.add]

set_option maxRecDepth 100000 in
set_option maxHeartbeats 8000000 in
theorem zeroW (p : Option Addr) (ln cap : Nat) (H : List Bool) (fr : Bool) (w : World) (hH : Bls w p ln cap H) (hfit : Fit6 w) :
    Calls Tryd.prog 9 #[.slice p ln cap, .bool fr] w fun e w' => e = .returned (.bool true) ∧ Below w.heap.size w w' := by
  have HS := Lib.hid (shown_c w hfit)
  have hlen := hH.len
  have hle := hH.le
  have hcm := hH.capm
  by_cases c1 : 60 < ln
  · have t1 : (60 : Int) < (ln : Int) := by omega
    clear hH hfit
    go_enter Tryd.func9, Tryd.ntmps9
    go_wp2_with fail
    refine HS.out.mono ?_
    rintro e w1 ⟨rfl, hB⟩
    have HB := Lib.hid hB
    clear hB
    go_wp2
    go_ret
    exact ⟨rfl, HB.out⟩
  · have t1 : ¬ (60 : Int) < (ln : Int) := by omega
    have HL := Lib.hid hH
    clear hH hfit
    obtain ⟨m, hmf⟩ : ∃ m : Nat, m = if fr then 1 else 0 := ⟨_, rfl⟩
    have hm1 : m ≤ 1 := by rw [hmf]; split <;> omega
    cases fr
    · clear hmf hm1 m
      go_enter Tryd.func9, Tryd.ntmps9
      go_wp2_with fail
      refine HS.out.mono ?_
      rintro e w1 ⟨rfl, hB⟩
      have HB1 := Lib.hid hB
      have HN := Lib.hid (new72 w1 (.int .i64 1) (.int .i64 0) (.int .i64 0) (.int .i64 4) (.int .i64 0) (.int .i64 0) (.bool false) (.bool false) (.int .i64 0))
      have HB0 := Lib.hid (Below.al2 w1 (.cells #[.int .i64 1, .int .i64 0, .int .i64 0, .int .i64 4, .int .i64 0, .int .i64 0, .bool false] 29) (.cells #[.bool false, .int .i64 0] 44))
      clear hB
      go_wp2_with fail
      obtain ⟨B, hBd⟩ : ∃ B, B = w1.heap.size := ⟨_, rfl⟩
      have hB1s : w.heap.size ≤ B := by rw [hBd]; exact HB1.out.size
      have HBD := Lib.hid hBd
      go_loopw [8, 9] (fun v i wr => ∃ (k : Nat) (ov : Bool), k ≤ ln ∧ i = .int .i64 k ∧ v = .bool ov ∧ (k = 0 → ov = false) ∧ Seven wr w1.heap.size 29 (.int .i64 1) (.int .i64 0) (.int .i64 0) (.int .i64 4) (.int .i64 0) (.int .i64 0) (.bool false) ∧ Two wr (w1.heap.size + 1) 44 (.bool (zeS ov k).1) (.int .i64 (zeS ov k).2) ∧ Below w.heap.size w wr) (fun _ i _ => ln - (RowKit.intOf i).toNat)
      case atStart =>
        exact ⟨0, false, by omega, rfl, rfl, fun _ => rfl, HN.out.1, HN.out.2, HB1.out.trans (HB0.out.mono HB1.out.size)⟩
      case round =>
        obtain ⟨k, ov, hk, rfl, rfl, h00, h7, h2, hB⟩ := hrel
        have hL := HL.out.below hB (Nat.le_refl _)
        by_cases hlt : k < ln
        · have t0 : (k : Int) < (ln : Int) := by omega
          obtain ⟨b, o, rfl⟩ := hL.ptr (by omega)
          obtain ⟨x, hxk⟩ : ∃ x, H[k]? = some x := ⟨H[k]'(by omega), List.getElem?_eq_getElem (by omega)⟩
          have hc := hL.cell b o rfl k x hxk
          have hbl := hL.lt (by omega) b o rfl
          have hsl := fun w => slice_bools b o ln cap k (by omega) hle hcm w
          obtain ⟨L, hLd⟩ : ∃ L, ((k : Int) == (ln : Int) - 1) = L := ⟨_, rfl⟩
          have hstep := ze_step 0 k ov L x (by omega) h00
          have A1 := fun w h => Ask_c (zeR 0) (zeS ov k) ((k : Int) + 1) L (some ⟨b, o + k, none⟩) 1 (cap - k) [x] (zeR_nums 0) (by omega) (by omega) w h
          rw [hstep] at A1
          obtain ⟨⟨x1, x2⟩, hx⟩ : ∃ y, zeS ov k = y := ⟨_, rfl⟩
          obtain ⟨ov', hov⟩ : ∃ y, (ov || (x && (decide (0 < k) || decide (0 = 0)))) = y := ⟨_, rfl⟩
          rw [hov] at A1
          obtain ⟨⟨y1, y2⟩, hy⟩ : ∃ y, zeS ov' (k + 1) = y := ⟨_, rfl⟩
          rw [hx, hy] at A1
          rw [hx] at h2
          rw [show rgv (zeR 0) = .agg #[.int .i64 1, .int .i64 0, .int .i64 0, .int .i64 4, .int .i64 0, .int .i64 0, .bool false] from rfl, show (zeR 0).not = false from rfl] at A1
          unfold stv lnv asv stv at A1
          simp only at A1 h2
          rw [show ((!ov) != false) = !ov by cases ov <;> rfl] at A1
          have BL := fun (w : World) (h : Bls w (some ⟨b, o, none⟩) ln cap H) => bls_one h hxk
          have HA := Lib.hid (fun w h => A1 w (BL w h))
          have HXK := Lib.hid hxk
          have HY := Lib.hid hy
          have HOV := Lib.hid hov
          have H7 := Lib.hid h7
          have H2 := Lib.hid h2
          have HB := Lib.hid hB
          have w1' : IntKind.i64.wrap ((k : Int) + 1) = (k : Int) + 1 := by simp [IntKind.wrap, IntKind.signed, IntKind.bits]; omega
          have w2' : IntKind.i64.wrap ((ln : Int) - 1) = (ln : Int) - 1 := by simp [IntKind.wrap, IntKind.signed, IntKind.bits]; omega
          clear A1 BL hstep hx hy hov h7 h2 hL hB hxk
          go_wp2_with fail
          refine wp_region_noPanic ?_
          refine wp_region_held_drew (S := fun w' => (w'.cell? ⟨w1.heap.size, 0, none⟩ = some (.int .i64 1) ∧ w'.cell? ⟨w1.heap.size, 1, none⟩ = some (.int .i64 0) ∧ w'.cell? ⟨w1.heap.size, 2, none⟩ = some (.int .i64 0) ∧ w'.cell? ⟨w1.heap.size, 3, none⟩ = some (.int .i64 4) ∧ w'.cell? ⟨w1.heap.size, 4, none⟩ = some (.int .i64 0) ∧ w'.cell? ⟨w1.heap.size, 5, none⟩ = some (.int .i64 0) ∧ w'.cell? ⟨w1.heap.size, 6, none⟩ = some (.bool false) ∧ w'.cell? ⟨(w1.heap.size + 1), 0, none⟩ = some (.bool x1) ∧ w'.cell? ⟨(w1.heap.size + 1), 1, none⟩ = some (.int .i64 x2)) ∧ Seven w' w1.heap.size 29 (.int .i64 1) (.int .i64 0) (.int .i64 0) (.int .i64 4) (.int .i64 0) (.int .i64 0) (.bool false) ∧ Two w' (w1.heap.size + 1) 44 (.bool x1) (.int .i64 x2) ∧ Below w.heap.size w w') (by kernel_rfl) ?_ (fun hHeld => ?_)
          · (try dsimp only); exact ⟨⟨H7.out.drew.c0, H7.out.drew.c1, H7.out.drew.c2, H7.out.drew.c3, H7.out.drew.c4, H7.out.drew.c5, H7.out.drew.c6, H2.out.drew.c0, H2.out.drew.c1⟩, H7.out.drew, H2.out.drew, HB.out.drew⟩
          refine wpAnyH_take (i := 0) (v := ?_) rfl (by kernel_rfl) (by kernel_rfl) (by kernel_rfl) (fun _ _ _ h => h) (Or.inl ⟨by kernel_rfl, ?_⟩) (by assumption) ?_
          rotate_left
          · (intro w hSw; (try dsimp only at hSw); (try obtain ⟨⟨c0, c1, c2, c3, c4, c5, c6, c7, c8⟩, h7, h2, hB⟩ := hSw); go_simp); (try with_reducible rfl)
          try simp only [Act.put, List.getElem_toArray, List.getElem_cons_succ, List.getElem_cons_zero, List.setIfInBounds_toArray, List.set_cons_zero, List.set_cons_succ]
          refine wpAnyH_take (i := 1) (v := ?_) rfl (by kernel_rfl) (by kernel_rfl) (by kernel_rfl) (fun _ _ _ h => h) (Or.inl ⟨by kernel_rfl, ?_⟩) (by assumption) ?_
          rotate_left
          · (intro w hSw; (try dsimp only at hSw); (try obtain ⟨⟨c0, c1, c2, c3, c4, c5, c6, c7, c8⟩, h7, h2, hB⟩ := hSw); go_simp); (try with_reducible rfl)
          try simp only [Act.put, List.getElem_toArray, List.getElem_cons_succ, List.getElem_cons_zero, List.setIfInBounds_toArray, List.set_cons_zero, List.set_cons_succ]
          refine wpAnyH_take (i := 2) (v := ?_) rfl (by kernel_rfl) (by kernel_rfl) (by kernel_rfl) (fun _ _ _ h => h) (Or.inl ⟨by kernel_rfl, ?_⟩) (by assumption) ?_
          rotate_left
          · (intro w hSw; (try dsimp only at hSw); (try obtain ⟨⟨c0, c1, c2, c3, c4, c5, c6, c7, c8⟩, h7, h2, hB⟩ := hSw); go_simp); (try with_reducible rfl)
          try simp only [Act.put, List.getElem_toArray, List.getElem_cons_succ, List.getElem_cons_zero, List.setIfInBounds_toArray, List.set_cons_zero, List.set_cons_succ]
          refine wpAnyH_take (i := 3) (v := ?_) rfl (by kernel_rfl) (by kernel_rfl) (by kernel_rfl) (fun _ _ _ h => h) (Or.inl ⟨by kernel_rfl, ?_⟩) (by assumption) ?_
          rotate_left
          · (intro w hSw; (try dsimp only at hSw); (try obtain ⟨⟨c0, c1, c2, c3, c4, c5, c6, c7, c8⟩, h7, h2, hB⟩ := hSw); go_simp); (try with_reducible rfl)
          try simp only [Act.put, List.getElem_toArray, List.getElem_cons_succ, List.getElem_cons_zero, List.setIfInBounds_toArray, List.set_cons_zero, List.set_cons_succ]
          refine wpAnyH_take (i := 4) (v := ?_) rfl (by kernel_rfl) (by kernel_rfl) (by kernel_rfl) (fun _ _ _ h => h) (Or.inl ⟨by kernel_rfl, ?_⟩) (by assumption) ?_
          rotate_left
          · (intro w hSw; (try dsimp only at hSw); (try obtain ⟨⟨c0, c1, c2, c3, c4, c5, c6, c7, c8⟩, h7, h2, hB⟩ := hSw); go_simp); (try with_reducible rfl)
          try simp only [Act.put, List.getElem_toArray, List.getElem_cons_succ, List.getElem_cons_zero, List.setIfInBounds_toArray, List.set_cons_zero, List.set_cons_succ]
          refine wpAnyH_take (i := 5) (v := ?_) rfl (by kernel_rfl) (by kernel_rfl) (by kernel_rfl) (fun _ _ _ h => h) (Or.inl ⟨by kernel_rfl, ?_⟩) (by assumption) ?_
          rotate_left
          · (intro w hSw; (try dsimp only at hSw); (try obtain ⟨⟨c0, c1, c2, c3, c4, c5, c6, c7, c8⟩, h7, h2, hB⟩ := hSw); go_simp); (try with_reducible rfl)
          try simp only [Act.put, List.getElem_toArray, List.getElem_cons_succ, List.getElem_cons_zero, List.setIfInBounds_toArray, List.set_cons_zero, List.set_cons_succ]
          refine wpAnyH_take (i := 6) (v := ?_) rfl (by kernel_rfl) (by kernel_rfl) (by kernel_rfl) (fun _ _ _ h => h) (Or.inl ⟨by kernel_rfl, ?_⟩) (by assumption) ?_
          rotate_left
          · (intro w hSw; (try dsimp only at hSw); (try obtain ⟨⟨c0, c1, c2, c3, c4, c5, c6, c7, c8⟩, h7, h2, hB⟩ := hSw); go_simp); (try with_reducible rfl)
          try simp only [Act.put, List.getElem_toArray, List.getElem_cons_succ, List.getElem_cons_zero, List.setIfInBounds_toArray, List.set_cons_zero, List.set_cons_succ]
          refine wpAnyH_take (i := 7) (v := ?_) rfl (by kernel_rfl) (by kernel_rfl) (by kernel_rfl) (fun _ _ _ h => h) (Or.inl ⟨by kernel_rfl, ?_⟩) (by assumption) ?_
          rotate_left
          · (intro w hSw; (try dsimp only at hSw); (try obtain ⟨⟨c0, c1, c2, c3, c4, c5, c6, c7, c8⟩, h7, h2, hB⟩ := hSw); go_simp); (try with_reducible rfl)
          try simp only [Act.put, List.getElem_toArray, List.getElem_cons_succ, List.getElem_cons_zero, List.setIfInBounds_toArray, List.set_cons_zero, List.set_cons_succ]
          refine wpAnyH_take (i := 8) (v := ?_) rfl (by kernel_rfl) (by kernel_rfl) (by kernel_rfl) (fun _ _ _ h => h) (Or.inl ⟨by kernel_rfl, ?_⟩) (by assumption) ?_
          rotate_left
          · (intro w hSw; (try dsimp only at hSw); (try obtain ⟨⟨c0, c1, c2, c3, c4, c5, c6, c7, c8⟩, h7, h2, hB⟩ := hSw); go_simp); (try with_reducible rfl)
          try simp only [Act.put, List.getElem_toArray, List.getElem_cons_succ, List.getElem_cons_zero, List.setIfInBounds_toArray, List.set_cons_zero, List.set_cons_succ]
          refine wpAnyH_take (i := 9) (v := ?_) rfl (by kernel_rfl) (by kernel_rfl) (by kernel_rfl) (fun _ _ _ h => h) (Or.inl ⟨by kernel_rfl, ?_⟩) (by assumption) ?_
          rotate_left
          · (intro w hSw; (try dsimp only at hSw); (try obtain ⟨⟨c0, c1, c2, c3, c4, c5, c6, c7, c8⟩, h7, h2, hB⟩ := hSw); go_simp); (try with_reducible rfl)
          try simp only [Act.put, List.getElem_toArray, List.getElem_cons_succ, List.getElem_cons_zero, List.setIfInBounds_toArray, List.set_cons_zero, List.set_cons_succ]
          refine wpAnyH_take (i := 10) (v := ?_) rfl (by kernel_rfl) (by kernel_rfl) (by kernel_rfl) (fun _ _ _ h => h) (Or.inl ⟨by kernel_rfl, ?_⟩) (by assumption) ?_
          rotate_left
          · (intro w hSw; (try dsimp only at hSw); (try obtain ⟨⟨c0, c1, c2, c3, c4, c5, c6, c7, c8⟩, h7, h2, hB⟩ := hSw); go_simp); (try with_reducible rfl)
          try simp only [Act.put, List.getElem_toArray, List.getElem_cons_succ, List.getElem_cons_zero, List.setIfInBounds_toArray, List.set_cons_zero, List.set_cons_succ]
          refine wpAnyH_take (i := 11) (v := ?_) rfl (by kernel_rfl) (by kernel_rfl) (by kernel_rfl) (fun _ _ _ h => h) (Or.inl ⟨by kernel_rfl, ?_⟩) (by assumption) ?_
          rotate_left
          · (intro w hSw; (try dsimp only at hSw); (try obtain ⟨⟨c0, c1, c2, c3, c4, c5, c6, c7, c8⟩, h7, h2, hB⟩ := hSw); go_simp); (try with_reducible rfl)
          try simp only [Act.put, List.getElem_toArray, List.getElem_cons_succ, List.getElem_cons_zero, List.setIfInBounds_toArray, List.set_cons_zero, List.set_cons_succ]
          refine wpAnyH_take (i := 12) (v := ?_) rfl (by kernel_rfl) (by kernel_rfl) (by kernel_rfl) (fun _ _ _ h => h) (Or.inl ⟨by kernel_rfl, ?_⟩) (by assumption) ?_
          rotate_left
          · (intro w hSw; (try dsimp only at hSw); (try obtain ⟨⟨c0, c1, c2, c3, c4, c5, c6, c7, c8⟩, h7, h2, hB⟩ := hSw); go_simp); (try with_reducible rfl)
          try simp only [Act.put, List.getElem_toArray, List.getElem_cons_succ, List.getElem_cons_zero, List.setIfInBounds_toArray, List.set_cons_zero, List.set_cons_succ]
          refine wpAnyH_take (i := 13) (v := ?_) rfl (by kernel_rfl) (by kernel_rfl) (by kernel_rfl) (fun _ _ _ h => h) (Or.inl ⟨by kernel_rfl, ?_⟩) (by assumption) ?_
          rotate_left
          · (intro w hSw; (try dsimp only at hSw); (try obtain ⟨⟨c0, c1, c2, c3, c4, c5, c6, c7, c8⟩, h7, h2, hB⟩ := hSw); go_simp); (try with_reducible rfl)
          try simp only [Act.put, List.getElem_toArray, List.getElem_cons_succ, List.getElem_cons_zero, List.setIfInBounds_toArray, List.set_cons_zero, List.set_cons_succ]
          refine wpAnyH_take (i := 14) (v := ?_) rfl (by kernel_rfl) (by kernel_rfl) (by kernel_rfl) (fun _ _ _ h => h) (Or.inl ⟨by kernel_rfl, ?_⟩) (by assumption) ?_
          rotate_left
          · (intro w hSw; (try dsimp only at hSw); (try obtain ⟨⟨c0, c1, c2, c3, c4, c5, c6, c7, c8⟩, h7, h2, hB⟩ := hSw); go_simp); (try with_reducible rfl)
          try simp only [Act.put, List.getElem_toArray, List.getElem_cons_succ, List.getElem_cons_zero, List.setIfInBounds_toArray, List.set_cons_zero, List.set_cons_succ]
          refine wpAnyH_ready (rs := [15, 19]) (by kernel_rfl) (by simp) ?_
          refine AllReadyH.cons rfl (fun K hK => ?_) (AllReadyH.cons rfl (fun K hK => ?_) AllReadyH.nil)
          · go_simp
            have hHn := hHeld
            obtain ⟨⟨c0, c1, c2, c3, c4, c5, c6, c7, c8⟩, h7, h2, hB⟩ := hHn
            refine (HA.out _ (HL.out.below hB (Nat.le_refl _))).mono ?_
            rintro e wN ⟨rfl, hBN⟩
            clear c0 c1 c2 c3 c4 c5 c6 c7 c8 h7 h2 hB
            refine hK.out _ _ ?_ (fun hHeld => ?_)
            · (try dsimp only); obtain ⟨⟨c0, c1, c2, c3, c4, c5, c6, c7, c8⟩, h7, h2, hB⟩ := hHeld; exact ⟨⟨cell_keep hBN c0, cell_keep hBN c1, cell_keep hBN c2, cell_keep hBN c3, cell_keep hBN c4, cell_keep hBN c5, cell_keep hBN c6, cell_keep hBN c7, cell_keep hBN c8⟩, h7.beside hBN, h2.beside hBN, hB.trans (hBN.mono hB.size)⟩
            clear hK K
            try simp only [Act.put, List.getElem_toArray, List.getElem_cons_succ, List.getElem_cons_zero, List.setIfInBounds_toArray, List.set_cons_zero, List.set_cons_succ]
            have hHeldA := hHeld
            refine wpAnyH_take (i := 16) (v := ?_) rfl (by kernel_rfl) (by kernel_rfl) (by kernel_rfl) (fun _ _ _ h => h) (Or.inl ⟨by kernel_rfl, ?_⟩) (by assumption) ?_
            rotate_left
            · (intro w hSw; (try dsimp only at hSw); (try obtain ⟨⟨c0, c1, c2, c3, c4, c5, c6, c7, c8⟩, h7, h2, hB⟩ := hSw); go_simp); (try with_reducible rfl)
            try simp only [Act.put, List.getElem_toArray, List.getElem_cons_succ, List.getElem_cons_zero, List.setIfInBounds_toArray, List.set_cons_zero, List.set_cons_succ]
            refine wpAnyH_take (i := 17) (v := ?_) rfl (by kernel_rfl) (by kernel_rfl) (by kernel_rfl) (fun _ _ _ h => h) (Or.inl ⟨by kernel_rfl, ?_⟩) (by assumption) ?_
            rotate_left
            · (intro w hSw; (try dsimp only at hSw); (try obtain ⟨⟨c0, c1, c2, c3, c4, c5, c6, c7, c8⟩, h7, h2, hB⟩ := hSw); go_simp); (try with_reducible rfl)
            try simp only [Act.put, List.getElem_toArray, List.getElem_cons_succ, List.getElem_cons_zero, List.setIfInBounds_toArray, List.set_cons_zero, List.set_cons_succ]
            refine wpAnyH_take (i := 18) (v := ?_) rfl (by kernel_rfl) (by kernel_rfl) (by kernel_rfl) (fun _ _ _ h => h) (Or.inl ⟨by kernel_rfl, ?_⟩) (by assumption) ?_
            rotate_left
            · (intro w hSw; (try dsimp only at hSw); (try obtain ⟨⟨c0, c1, c2, c3, c4, c5, c6, c7, c8⟩, h7, h2, hB⟩ := hSw); go_simp); (try with_reducible rfl)
            try simp only [Act.put, List.getElem_toArray, List.getElem_cons_succ, List.getElem_cons_zero, List.setIfInBounds_toArray, List.set_cons_zero, List.set_cons_succ]
            refine wpAnyH_ready (rs := [19]) (by kernel_rfl) (by simp) ?_
            refine AllReadyH.cons rfl (fun K hK => ?_) ?_
            rotate_left
            · exact AllReadyH.nil
            go_simp
            have hBA := (Below.refl _ wN).alloc (Nat.le_refl _) (.cells #[.bool false, .int .i64 0] 44)
            refine hK.out _ _ ?_ (fun hHeld => ?_)
            · (try dsimp only); have hBN := hBA; obtain ⟨⟨c0, c1, c2, c3, c4, c5, c6, c7, c8⟩, h7, h2, hB⟩ := hHeld; exact ⟨⟨cell_keep hBN c0, cell_keep hBN c1, cell_keep hBN c2, cell_keep hBN c3, cell_keep hBN c4, cell_keep hBN c5, cell_keep hBN c6, cell_keep hBN c7, cell_keep hBN c8⟩, h7.beside hBN, h2.beside hBN, hB.trans (hBN.mono hB.size)⟩
            clear hK K
            try simp only [Act.put, List.getElem_toArray, List.getElem_cons_succ, List.getElem_cons_zero, List.setIfInBounds_toArray, List.set_cons_zero, List.set_cons_succ]
            refine wpAnyH_take (i := 20) (v := ?_) rfl (by kernel_rfl) (by kernel_rfl) (by kernel_rfl) (fun _ _ _ h => h) (Or.inl ⟨by kernel_rfl, ?_⟩) (by assumption) ?_
            rotate_left
            · (intro w hSw; (try dsimp only at hSw); (try obtain ⟨⟨c0, c1, c2, c3, c4, c5, c6, c7, c8⟩, h7, h2, hB⟩ := hSw); go_simp); (try with_reducible rfl)
            try simp only [Act.put, List.getElem_toArray, List.getElem_cons_succ, List.getElem_cons_zero, List.setIfInBounds_toArray, List.set_cons_zero, List.set_cons_succ]
            have hQ := Two.new wN 44 (.bool false) (.int .i64 0)
            have hqlt : w1.heap.size + 1 < wN.heap.size := by
              obtain ⟨⟨c0, c1, c2, c3, c4, c5, c6, c7, c8⟩, h7, h2, hB⟩ := hHeldA
              exact h2.lt
            clear hHeldA
            generalize wN.alloc (.cells #[.bool false, .int .i64 0] 44) = W3 at hHeld hQ ⊢
            generalize wN.heap.size = q at hQ hqlt ⊢
            refine wpAnyH_ready (rs := [21]) (by kernel_rfl) (by simp) ?_
            refine AllReadyH.cons rfl (fun K hK => ?_) ?_
            rotate_left
            · exact AllReadyH.nil
            have hHn := hHeld
            obtain ⟨⟨c0, c1, c2, c3, c4, c5, c6, c7, c8⟩, h7, h2, hB⟩ := hHn
            have hQ4 := hQ.s (.bool y1) (.int .i64 y2)
            have f0 := hQ.fz 0
            have f1 := hQ.fz 1
            have g0 := hQ.c0
            have g1 := hQ.c1
            have hws : w.heap.size ≤ w1.heap.size := HB1.out.size
            have hKeep := And.intro ((h7.other (p := ⟨q, 0, none⟩) (by show _ ≠ q; omega) (.bool y1)).other (p := ⟨q, 1, none⟩) (by show _ ≠ q; omega) (.int .i64 y2)) (And.intro ((h2.other (p := ⟨q, 0, none⟩) (by show _ ≠ q; omega) (.bool y1)).other (p := ⟨q, 1, none⟩) (by show _ ≠ q; omega) (.int .i64 y2)) (Below.set2 hB (b := q) (by omega) (.bool y1) (.int .i64 y2)))
            go_simp
            refine hK.out _ _ ?_ (fun hHeld => ?_)
            · (try dsimp only); exact ⟨⟨cell_set2 c0 (by omega), cell_set2 c1 (by omega), cell_set2 c2 (by omega), cell_set2 c3 (by omega), cell_set2 c4 (by omega), cell_set2 c5 (by omega), cell_set2 c6 (by omega), cell_set2 c7 (by omega), cell_set2 c8 (by omega)⟩, hKeep.1, hKeep.2.1, hKeep.2.2⟩
            clear hK K f0 f1 g0 g1 h7 h2 hB c0 c1 c2 c3 c4 c5 c6 c7 c8 hQ
            try simp only [Act.put, List.getElem_toArray, List.getElem_cons_succ, List.getElem_cons_zero, List.setIfInBounds_toArray, List.set_cons_zero, List.set_cons_succ]
            refine wpAnyH_done (by kernel_rfl) ?_ _
            refine NoPanic.normal ?_
            clear hHeld
            generalize (W3.setCell ⟨q, 0, none⟩ (.bool y1)).setCell ⟨q, 1, none⟩ (.int .i64 y2) = W4 at hQ4 hKeep ⊢
            obtain ⟨h7, h2, hB⟩ := hKeep
            have hL4 := HL.out.below hB (Nat.le_refl _)
            have hbw : b < w.heap.size := HL.out.lt (by omega) b o rfl
            have hc4 := hL4.cell b o rfl k x HXK.out
            have hc5 := cell_set2 (b' := w1.heap.size + 1) (u0 := .bool y1) (u1 := .int .i64 y2) hc4 (by omega)
            have p0 := hQ4.c0
            have p1 := hQ4.c1
            have f0 := h2.fz 0
            have f1 := h2.fz 1
            have g0 := h2.c0
            have g1 := h2.c1
            have HR := Lib.hid (And.intro ((h7.other (p := ⟨w1.heap.size + 1, 0, none⟩) (by simp) (.bool y1)).other (p := ⟨w1.heap.size + 1, 1, none⟩) (by simp) (.int .i64 y2)) (And.intro (h2.s (.bool y1) (.int .i64 y2)) (Below.set2 hB (b := w1.heap.size + 1) (by omega) (.bool y1) (.int .i64 y2))))
            clear h7 h2 hB hL4 hQ4 hc4
            cases ov
            · cases x
              · obtain rfl : ov' = false := by rw [← HOV.out]; simp
                go_wp2
                go_roundw
                case rel =>
                  refine ⟨k + 1, false, by omega, by simp, rfl, fun h => absurd h (by omega), HR.out.1, ?_, HR.out.2.2⟩
                  rw [HY.out]
                  exact HR.out.2.1
                case measure => simp [RowKit.intOf]; omega
              · by_cases hk0 : 0 < k
                · have r0 : (0 : Int) < (k : Int) := by omega
                  have r1 : decide ((0 : Int) < (k : Int)) = true := by simp; omega
                  obtain rfl : ov' = true := by rw [← HOV.out]; simp [hk0]
                  go_wp2
                  go_roundw
                  case rel =>
                    refine ⟨k + 1, true, by omega, by simp, rfl, fun h => absurd h (by omega), HR.out.1, ?_, HR.out.2.2⟩
                    rw [HY.out]
                    exact HR.out.2.1
                  case measure => simp [RowKit.intOf]; omega
                · have r0 : ¬ (0 : Int) < (k : Int) := by omega
                  have r1 : decide ((0 : Int) < (k : Int)) = false := by simp; omega
                  obtain rfl : ov' = true := by rw [← HOV.out]; simp; try omega
                  clear h00
                  go_wp2
                  go_roundw
                  case rel =>
                    refine ⟨k + 1, true, by omega, by simp, rfl, fun h => absurd h (by omega), HR.out.1, ?_, HR.out.2.2⟩
                    rw [HY.out]
                    exact HR.out.2.1
                  case measure => simp [RowKit.intOf]; omega
            · cases x
              · obtain rfl : ov' = true := by rw [← HOV.out]; simp
                go_wp2
                go_roundw
                case rel =>
                  refine ⟨k + 1, true, by omega, by simp, rfl, fun h => absurd h (by omega), HR.out.1, ?_, HR.out.2.2⟩
                  rw [HY.out]
                  exact HR.out.2.1
                case measure => simp [RowKit.intOf]; omega
              · by_cases hk0 : 0 < k
                · have r0 : (0 : Int) < (k : Int) := by omega
                  have r1 : decide ((0 : Int) < (k : Int)) = true := by simp; omega
                  obtain rfl : ov' = true := by rw [← HOV.out]; simp [hk0]
                  go_wp2
                  go_roundw
                  case rel =>
                    refine ⟨k + 1, true, by omega, by simp, rfl, fun h => absurd h (by omega), HR.out.1, ?_, HR.out.2.2⟩
                    rw [HY.out]
                    exact HR.out.2.1
                  case measure => simp [RowKit.intOf]; omega
                · have r0 : ¬ (0 : Int) < (k : Int) := by omega
                  have r1 : decide ((0 : Int) < (k : Int)) = false := by simp; omega
                  exact absurd (h00 (by omega)) (by simp)
          · have hQ0 : Two (wr.drew.alloc (.cells #[.bool false, .int .i64 0] 44)) wr.heap.size 44 (.bool false) (.int .i64 0) := Two.new wr.drew 44 (.bool false) (.int .i64 0)
            go_simp
            have hBA := (Below.refl _ wr.drew).alloc (Nat.le_refl _) (.cells #[.bool false, .int .i64 0] 44)
            refine hK.out _ _ ?_ (fun hHeld => ?_)
            · (try dsimp only); have hBN := hBA; obtain ⟨⟨c0, c1, c2, c3, c4, c5, c6, c7, c8⟩, h7, h2, hB⟩ := hHeld; exact ⟨⟨cell_keep hBN c0, cell_keep hBN c1, cell_keep hBN c2, cell_keep hBN c3, cell_keep hBN c4, cell_keep hBN c5, cell_keep hBN c6, cell_keep hBN c7, cell_keep hBN c8⟩, h7.beside hBN, h2.beside hBN, hB.trans (hBN.mono hB.size)⟩
            clear hK K
            try simp only [Act.put, List.getElem_toArray, List.getElem_cons_succ, List.getElem_cons_zero, List.setIfInBounds_toArray, List.set_cons_zero, List.set_cons_succ]
            refine wpAnyH_ready (rs := [15]) (by kernel_rfl) (by simp) ?_
            refine AllReadyH.cons rfl (fun K hK => ?_) ?_
            rotate_left
            · exact AllReadyH.nil
            go_simp
            have hHn := hHeld
            obtain ⟨⟨c0, c1, c2, c3, c4, c5, c6, c7, c8⟩, h7, h2, hB⟩ := hHn
            refine (HA.out _ (HL.out.below hB (Nat.le_refl _))).mono ?_
            rintro e wN ⟨rfl, hBN⟩
            clear c0 c1 c2 c3 c4 c5 c6 c7 c8 h7 h2 hB
            refine hK.out _ _ ?_ (fun hHeld => ?_)
            · (try dsimp only); obtain ⟨⟨c0, c1, c2, c3, c4, c5, c6, c7, c8⟩, h7, h2, hB⟩ := hHeld; exact ⟨⟨cell_keep hBN c0, cell_keep hBN c1, cell_keep hBN c2, cell_keep hBN c3, cell_keep hBN c4, cell_keep hBN c5, cell_keep hBN c6, cell_keep hBN c7, cell_keep hBN c8⟩, h7.beside hBN, h2.beside hBN, hB.trans (hBN.mono hB.size)⟩
            clear hK K
            try simp only [Act.put, List.getElem_toArray, List.getElem_cons_succ, List.getElem_cons_zero, List.setIfInBounds_toArray, List.set_cons_zero, List.set_cons_succ]
            refine wpAnyH_take (i := 16) (v := ?_) rfl (by kernel_rfl) (by kernel_rfl) (by kernel_rfl) (fun _ _ _ h => h) (Or.inl ⟨by kernel_rfl, ?_⟩) (by assumption) ?_
            rotate_left
            · (intro w hSw; (try dsimp only at hSw); (try obtain ⟨⟨c0, c1, c2, c3, c4, c5, c6, c7, c8⟩, h7, h2, hB⟩ := hSw); go_simp); (try with_reducible rfl)
            try simp only [Act.put, List.getElem_toArray, List.getElem_cons_succ, List.getElem_cons_zero, List.setIfInBounds_toArray, List.set_cons_zero, List.set_cons_succ]
            refine wpAnyH_take (i := 17) (v := ?_) rfl (by kernel_rfl) (by kernel_rfl) (by kernel_rfl) (fun _ _ _ h => h) (Or.inl ⟨by kernel_rfl, ?_⟩) (by assumption) ?_
            rotate_left
            · (intro w hSw; (try dsimp only at hSw); (try obtain ⟨⟨c0, c1, c2, c3, c4, c5, c6, c7, c8⟩, h7, h2, hB⟩ := hSw); go_simp); (try with_reducible rfl)
            try simp only [Act.put, List.getElem_toArray, List.getElem_cons_succ, List.getElem_cons_zero, List.setIfInBounds_toArray, List.set_cons_zero, List.set_cons_succ]
            refine wpAnyH_take (i := 18) (v := ?_) rfl (by kernel_rfl) (by kernel_rfl) (by kernel_rfl) (fun _ _ _ h => h) (Or.inl ⟨by kernel_rfl, ?_⟩) (by assumption) ?_
            rotate_left
            · (intro w hSw; (try dsimp only at hSw); (try obtain ⟨⟨c0, c1, c2, c3, c4, c5, c6, c7, c8⟩, h7, h2, hB⟩ := hSw); go_simp); (try with_reducible rfl)
            try simp only [Act.put, List.getElem_toArray, List.getElem_cons_succ, List.getElem_cons_zero, List.setIfInBounds_toArray, List.set_cons_zero, List.set_cons_succ]
            refine wpAnyH_take (i := 20) (v := ?_) rfl (by kernel_rfl) (by kernel_rfl) (by kernel_rfl) (fun _ _ _ h => h) (Or.inl ⟨by kernel_rfl, ?_⟩) (by assumption) ?_
            rotate_left
            · (intro w hSw; (try dsimp only at hSw); (try obtain ⟨⟨c0, c1, c2, c3, c4, c5, c6, c7, c8⟩, h7, h2, hB⟩ := hSw); go_simp); (try with_reducible rfl)
            try simp only [Act.put, List.getElem_toArray, List.getElem_cons_succ, List.getElem_cons_zero, List.setIfInBounds_toArray, List.set_cons_zero, List.set_cons_succ]
            have hQ := hQ0.beside hBN
            have hqlt : w1.heap.size + 1 < wr.heap.size := H2.out.lt
            generalize wr.heap.size = q at hQ hqlt ⊢
            clear hBN
            generalize wN = W3 at hHeld hQ ⊢
            refine wpAnyH_ready (rs := [21]) (by kernel_rfl) (by simp) ?_
            refine AllReadyH.cons rfl (fun K hK => ?_) ?_
            rotate_left
            · exact AllReadyH.nil
            have hHn := hHeld
            obtain ⟨⟨c0, c1, c2, c3, c4, c5, c6, c7, c8⟩, h7, h2, hB⟩ := hHn
            have hQ4 := hQ.s (.bool y1) (.int .i64 y2)
            have f0 := hQ.fz 0
            have f1 := hQ.fz 1
            have g0 := hQ.c0
            have g1 := hQ.c1
            have hws : w.heap.size ≤ w1.heap.size := HB1.out.size
            have hKeep := And.intro ((h7.other (p := ⟨q, 0, none⟩) (by show _ ≠ q; omega) (.bool y1)).other (p := ⟨q, 1, none⟩) (by show _ ≠ q; omega) (.int .i64 y2)) (And.intro ((h2.other (p := ⟨q, 0, none⟩) (by show _ ≠ q; omega) (.bool y1)).other (p := ⟨q, 1, none⟩) (by show _ ≠ q; omega) (.int .i64 y2)) (Below.set2 hB (b := q) (by omega) (.bool y1) (.int .i64 y2)))
            go_simp
            refine hK.out _ _ ?_ (fun hHeld => ?_)
            · (try dsimp only); exact ⟨⟨cell_set2 c0 (by omega), cell_set2 c1 (by omega), cell_set2 c2 (by omega), cell_set2 c3 (by omega), cell_set2 c4 (by omega), cell_set2 c5 (by omega), cell_set2 c6 (by omega), cell_set2 c7 (by omega), cell_set2 c8 (by omega)⟩, hKeep.1, hKeep.2.1, hKeep.2.2⟩
            clear hK K f0 f1 g0 g1 h7 h2 hB c0 c1 c2 c3 c4 c5 c6 c7 c8 hQ
            try simp only [Act.put, List.getElem_toArray, List.getElem_cons_succ, List.getElem_cons_zero, List.setIfInBounds_toArray, List.set_cons_zero, List.set_cons_succ]
            refine wpAnyH_done (by kernel_rfl) ?_ _
            refine NoPanic.normal ?_
            clear hHeld
            generalize (W3.setCell ⟨q, 0, none⟩ (.bool y1)).setCell ⟨q, 1, none⟩ (.int .i64 y2) = W4 at hQ4 hKeep ⊢
            obtain ⟨h7, h2, hB⟩ := hKeep
            have hL4 := HL.out.below hB (Nat.le_refl _)
            have hbw : b < w.heap.size := HL.out.lt (by omega) b o rfl
            have hc4 := hL4.cell b o rfl k x HXK.out
            have hc5 := cell_set2 (b' := w1.heap.size + 1) (u0 := .bool y1) (u1 := .int .i64 y2) hc4 (by omega)
            have p0 := hQ4.c0
            have p1 := hQ4.c1
            have f0 := h2.fz 0
            have f1 := h2.fz 1
            have g0 := h2.c0
            have g1 := h2.c1
            have HR := Lib.hid (And.intro ((h7.other (p := ⟨w1.heap.size + 1, 0, none⟩) (by simp) (.bool y1)).other (p := ⟨w1.heap.size + 1, 1, none⟩) (by simp) (.int .i64 y2)) (And.intro (h2.s (.bool y1) (.int .i64 y2)) (Below.set2 hB (b := w1.heap.size + 1) (by omega) (.bool y1) (.int .i64 y2))))
            clear h7 h2 hB hL4 hQ4 hc4
            cases ov
            · cases x
              · obtain rfl : ov' = false := by rw [← HOV.out]; simp
                go_wp2
                go_roundw
                case rel =>
                  refine ⟨k + 1, false, by omega, by simp, rfl, fun h => absurd h (by omega), HR.out.1, ?_, HR.out.2.2⟩
                  rw [HY.out]
                  exact HR.out.2.1
                case measure => simp [RowKit.intOf]; omega
              · by_cases hk0 : 0 < k
                · have r0 : (0 : Int) < (k : Int) := by omega
                  have r1 : decide ((0 : Int) < (k : Int)) = true := by simp; omega
                  obtain rfl : ov' = true := by rw [← HOV.out]; simp [hk0]
                  go_wp2
                  go_roundw
                  case rel =>
                    refine ⟨k + 1, true, by omega, by simp, rfl, fun h => absurd h (by omega), HR.out.1, ?_, HR.out.2.2⟩
                    rw [HY.out]
                    exact HR.out.2.1
                  case measure => simp [RowKit.intOf]; omega
                · have r0 : ¬ (0 : Int) < (k : Int) := by omega
                  have r1 : decide ((0 : Int) < (k : Int)) = false := by simp; omega
                  obtain rfl : ov' = true := by rw [← HOV.out]; simp; try omega
                  clear h00
                  go_wp2
                  go_roundw
                  case rel =>
                    refine ⟨k + 1, true, by omega, by simp, rfl, fun h => absurd h (by omega), HR.out.1, ?_, HR.out.2.2⟩
                    rw [HY.out]
                    exact HR.out.2.1
                  case measure => simp [RowKit.intOf]; omega
            · cases x
              · obtain rfl : ov' = true := by rw [← HOV.out]; simp
                go_wp2
                go_roundw
                case rel =>
                  refine ⟨k + 1, true, by omega, by simp, rfl, fun h => absurd h (by omega), HR.out.1, ?_, HR.out.2.2⟩
                  rw [HY.out]
                  exact HR.out.2.1
                case measure => simp [RowKit.intOf]; omega
              · by_cases hk0 : 0 < k
                · have r0 : (0 : Int) < (k : Int) := by omega
                  have r1 : decide ((0 : Int) < (k : Int)) = true := by simp; omega
                  obtain rfl : ov' = true := by rw [← HOV.out]; simp [hk0]
                  go_wp2
                  go_roundw
                  case rel =>
                    refine ⟨k + 1, true, by omega, by simp, rfl, fun h => absurd h (by omega), HR.out.1, ?_, HR.out.2.2⟩
                    rw [HY.out]
                    exact HR.out.2.1
                  case measure => simp [RowKit.intOf]; omega
                · have r0 : ¬ (0 : Int) < (k : Int) := by omega
                  have r1 : decide ((0 : Int) < (k : Int)) = false := by simp; omega
                  exact absurd (h00 (by omega)) (by simp)
        · obtain rfl : k = ln := by omega
          clear h7 h2 hL
          go_wp2
          go_ret
          exact ⟨rfl, hB⟩
    · clear hmf hm1 m
      go_enter Tryd.func9, Tryd.ntmps9
      go_wp2_with fail
      refine HS.out.mono ?_
      rintro e w1 ⟨rfl, hB⟩
      have HB1 := Lib.hid hB
      have HN := Lib.hid (new72 w1 (.int .i64 1) (.int .i64 1) (.int .i64 0) (.int .i64 4) (.int .i64 0) (.int .i64 0) (.bool false) (.bool false) (.int .i64 0))
      have HB0 := Lib.hid (Below.al2 w1 (.cells #[.int .i64 1, .int .i64 1, .int .i64 0, .int .i64 4, .int .i64 0, .int .i64 0, .bool false] 29) (.cells #[.bool false, .int .i64 0] 44))
      clear hB
      go_wp2_with fail
      obtain ⟨B, hBd⟩ : ∃ B, B = w1.heap.size := ⟨_, rfl⟩
      have hB1s : w.heap.size ≤ B := by rw [hBd]; exact HB1.out.size
      have HBD := Lib.hid hBd
      go_loopw [8, 9] (fun v i wr => ∃ (k : Nat) (ov : Bool), k ≤ ln ∧ i = .int .i64 k ∧ v = .bool ov ∧ (k = 0 → ov = false) ∧ Seven wr w1.heap.size 29 (.int .i64 1) (.int .i64 1) (.int .i64 0) (.int .i64 4) (.int .i64 0) (.int .i64 0) (.bool false) ∧ Two wr (w1.heap.size + 1) 44 (.bool (zeS ov k).1) (.int .i64 (zeS ov k).2) ∧ Below w.heap.size w wr) (fun _ i _ => ln - (RowKit.intOf i).toNat)
      case atStart =>
        exact ⟨0, false, by omega, rfl, rfl, fun _ => rfl, HN.out.1, HN.out.2, HB1.out.trans (HB0.out.mono HB1.out.size)⟩
      case round =>
        obtain ⟨k, ov, hk, rfl, rfl, h00, h7, h2, hB⟩ := hrel
        have hL := HL.out.below hB (Nat.le_refl _)
        by_cases hlt : k < ln
        · have t0 : (k : Int) < (ln : Int) := by omega
          obtain ⟨b, o, rfl⟩ := hL.ptr (by omega)
          obtain ⟨x, hxk⟩ : ∃ x, H[k]? = some x := ⟨H[k]'(by omega), List.getElem?_eq_getElem (by omega)⟩
          have hc := hL.cell b o rfl k x hxk
          have hbl := hL.lt (by omega) b o rfl
          have hsl := fun w => slice_bools b o ln cap k (by omega) hle hcm w
          obtain ⟨L, hLd⟩ : ∃ L, ((k : Int) == (ln : Int) - 1) = L := ⟨_, rfl⟩
          have hstep := ze_step 1 k ov L x (by omega) h00
          have A1 := fun w h => Ask_c (zeR 1) (zeS ov k) ((k : Int) + 1) L (some ⟨b, o + k, none⟩) 1 (cap - k) [x] (zeR_nums 1) (by omega) (by omega) w h
          rw [hstep] at A1
          obtain ⟨⟨x1, x2⟩, hx⟩ : ∃ y, zeS ov k = y := ⟨_, rfl⟩
          obtain ⟨ov', hov⟩ : ∃ y, (ov || (x && (decide (0 < k) || decide (1 = 0)))) = y := ⟨_, rfl⟩
          rw [hov] at A1
          obtain ⟨⟨y1, y2⟩, hy⟩ : ∃ y, zeS ov' (k + 1) = y := ⟨_, rfl⟩
          rw [hx, hy] at A1
          rw [hx] at h2
          rw [show rgv (zeR 1) = .agg #[.int .i64 1, .int .i64 1, .int .i64 0, .int .i64 4, .int .i64 0, .int .i64 0, .bool false] from rfl, show (zeR 1).not = false from rfl] at A1
          unfold stv lnv asv stv at A1
          simp only at A1 h2
          rw [show ((!ov) != false) = !ov by cases ov <;> rfl] at A1
          have BL := fun (w : World) (h : Bls w (some ⟨b, o, none⟩) ln cap H) => bls_one h hxk
          have HA := Lib.hid (fun w h => A1 w (BL w h))
          have HXK := Lib.hid hxk
          have HY := Lib.hid hy
          have HOV := Lib.hid hov
          have H7 := Lib.hid h7
          have H2 := Lib.hid h2
          have HB := Lib.hid hB
          have w1' : IntKind.i64.wrap ((k : Int) + 1) = (k : Int) + 1 := by simp [IntKind.wrap, IntKind.signed, IntKind.bits]; omega
          have w2' : IntKind.i64.wrap ((ln : Int) - 1) = (ln : Int) - 1 := by simp [IntKind.wrap, IntKind.signed, IntKind.bits]; omega
          clear A1 BL hstep hx hy hov h7 h2 hL hB hxk
          go_wp2_with fail
          refine wp_region_noPanic ?_
          refine wp_region_held_drew (S := fun w' => (w'.cell? ⟨w1.heap.size, 0, none⟩ = some (.int .i64 1) ∧ w'.cell? ⟨w1.heap.size, 1, none⟩ = some (.int .i64 1) ∧ w'.cell? ⟨w1.heap.size, 2, none⟩ = some (.int .i64 0) ∧ w'.cell? ⟨w1.heap.size, 3, none⟩ = some (.int .i64 4) ∧ w'.cell? ⟨w1.heap.size, 4, none⟩ = some (.int .i64 0) ∧ w'.cell? ⟨w1.heap.size, 5, none⟩ = some (.int .i64 0) ∧ w'.cell? ⟨w1.heap.size, 6, none⟩ = some (.bool false) ∧ w'.cell? ⟨(w1.heap.size + 1), 0, none⟩ = some (.bool x1) ∧ w'.cell? ⟨(w1.heap.size + 1), 1, none⟩ = some (.int .i64 x2)) ∧ Seven w' w1.heap.size 29 (.int .i64 1) (.int .i64 1) (.int .i64 0) (.int .i64 4) (.int .i64 0) (.int .i64 0) (.bool false) ∧ Two w' (w1.heap.size + 1) 44 (.bool x1) (.int .i64 x2) ∧ Below w.heap.size w w') (by kernel_rfl) ?_ (fun hHeld => ?_)
          · (try dsimp only); exact ⟨⟨H7.out.drew.c0, H7.out.drew.c1, H7.out.drew.c2, H7.out.drew.c3, H7.out.drew.c4, H7.out.drew.c5, H7.out.drew.c6, H2.out.drew.c0, H2.out.drew.c1⟩, H7.out.drew, H2.out.drew, HB.out.drew⟩
          refine wpAnyH_take (i := 0) (v := ?_) rfl (by kernel_rfl) (by kernel_rfl) (by kernel_rfl) (fun _ _ _ h => h) (Or.inl ⟨by kernel_rfl, ?_⟩) (by assumption) ?_
          rotate_left
          · (intro w hSw; (try dsimp only at hSw); (try obtain ⟨⟨c0, c1, c2, c3, c4, c5, c6, c7, c8⟩, h7, h2, hB⟩ := hSw); go_simp); (try with_reducible rfl)
          try simp only [Act.put, List.getElem_toArray, List.getElem_cons_succ, List.getElem_cons_zero, List.setIfInBounds_toArray, List.set_cons_zero, List.set_cons_succ]
          refine wpAnyH_take (i := 1) (v := ?_) rfl (by kernel_rfl) (by kernel_rfl) (by kernel_rfl) (fun _ _ _ h => h) (Or.inl ⟨by kernel_rfl, ?_⟩) (by assumption) ?_
          rotate_left
          · (intro w hSw; (try dsimp only at hSw); (try obtain ⟨⟨c0, c1, c2, c3, c4, c5, c6, c7, c8⟩, h7, h2, hB⟩ := hSw); go_simp); (try with_reducible rfl)
          try simp only [Act.put, List.getElem_toArray, List.getElem_cons_succ, List.getElem_cons_zero, List.setIfInBounds_toArray, List.set_cons_zero, List.set_cons_succ]
          refine wpAnyH_take (i := 2) (v := ?_) rfl (by kernel_rfl) (by kernel_rfl) (by kernel_rfl) (fun _ _ _ h => h) (Or.inl ⟨by kernel_rfl, ?_⟩) (by assumption) ?_
          rotate_left
          · (intro w hSw; (try dsimp only at hSw); (try obtain ⟨⟨c0, c1, c2, c3, c4, c5, c6, c7, c8⟩, h7, h2, hB⟩ := hSw); go_simp); (try with_reducible rfl)
          try simp only [Act.put, List.getElem_toArray, List.getElem_cons_succ, List.getElem_cons_zero, List.setIfInBounds_toArray, List.set_cons_zero, List.set_cons_succ]
          refine wpAnyH_take (i := 3) (v := ?_) rfl (by kernel_rfl) (by kernel_rfl) (by kernel_rfl) (fun _ _ _ h => h) (Or.inl ⟨by kernel_rfl, ?_⟩) (by assumption) ?_
          rotate_left
          · (intro w hSw; (try dsimp only at hSw); (try obtain ⟨⟨c0, c1, c2, c3, c4, c5, c6, c7, c8⟩, h7, h2, hB⟩ := hSw); go_simp); (try with_reducible rfl)
          try simp only [Act.put, List.getElem_toArray, List.getElem_cons_succ, List.getElem_cons_zero, List.setIfInBounds_toArray, List.set_cons_zero, List.set_cons_succ]
          refine wpAnyH_take (i := 4) (v := ?_) rfl (by kernel_rfl) (by kernel_rfl) (by kernel_rfl) (fun _ _ _ h => h) (Or.inl ⟨by kernel_rfl, ?_⟩) (by assumption) ?_
          rotate_left
          · (intro w hSw; (try dsimp only at hSw); (try obtain ⟨⟨c0, c1, c2, c3, c4, c5, c6, c7, c8⟩, h7, h2, hB⟩ := hSw); go_simp); (try with_reducible rfl)
          try simp only [Act.put, List.getElem_toArray, List.getElem_cons_succ, List.getElem_cons_zero, List.setIfInBounds_toArray, List.set_cons_zero, List.set_cons_succ]
          refine wpAnyH_take (i := 5) (v := ?_) rfl (by kernel_rfl) (by kernel_rfl) (by kernel_rfl) (fun _ _ _ h => h) (Or.inl ⟨by kernel_rfl, ?_⟩) (by assumption) ?_
          rotate_left
          · (intro w hSw; (try dsimp only at hSw); (try obtain ⟨⟨c0, c1, c2, c3, c4, c5, c6, c7, c8⟩, h7, h2, hB⟩ := hSw); go_simp); (try with_reducible rfl)
          try simp only [Act.put, List.getElem_toArray, List.getElem_cons_succ, List.getElem_cons_zero, List.setIfInBounds_toArray, List.set_cons_zero, List.set_cons_succ]
          refine wpAnyH_take (i := 6) (v := ?_) rfl (by kernel_rfl) (by kernel_rfl) (by kernel_rfl) (fun _ _ _ h => h) (Or.inl ⟨by kernel_rfl, ?_⟩) (by assumption) ?_
          rotate_left
          · (intro w hSw; (try dsimp only at hSw); (try obtain ⟨⟨c0, c1, c2, c3, c4, c5, c6, c7, c8⟩, h7, h2, hB⟩ := hSw); go_simp); (try with_reducible rfl)
          try simp only [Act.put, List.getElem_toArray, List.getElem_cons_succ, List.getElem_cons_zero, List.setIfInBounds_toArray, List.set_cons_zero, List.set_cons_succ]
          refine wpAnyH_take (i := 7) (v := ?_) rfl (by kernel_rfl) (by kernel_rfl) (by kernel_rfl) (fun _ _ _ h => h) (Or.inl ⟨by kernel_rfl, ?_⟩) (by assumption) ?_
          rotate_left
          · (intro w hSw; (try dsimp only at hSw); (try obtain ⟨⟨c0, c1, c2, c3, c4, c5, c6, c7, c8⟩, h7, h2, hB⟩ := hSw); go_simp); (try with_reducible rfl)
          try simp only [Act.put, List.getElem_toArray, List.getElem_cons_succ, List.getElem_cons_zero, List.setIfInBounds_toArray, List.set_cons_zero, List.set_cons_succ]
          refine wpAnyH_take (i := 8) (v := ?_) rfl (by kernel_rfl) (by kernel_rfl) (by kernel_rfl) (fun _ _ _ h => h) (Or.inl ⟨by kernel_rfl, ?_⟩) (by assumption) ?_
          rotate_left
          · (intro w hSw; (try dsimp only at hSw); (try obtain ⟨⟨c0, c1, c2, c3, c4, c5, c6, c7, c8⟩, h7, h2, hB⟩ := hSw); go_simp); (try with_reducible rfl)
          try simp only [Act.put, List.getElem_toArray, List.getElem_cons_succ, List.getElem_cons_zero, List.setIfInBounds_toArray, List.set_cons_zero, List.set_cons_succ]
          refine wpAnyH_take (i := 9) (v := ?_) rfl (by kernel_rfl) (by kernel_rfl) (by kernel_rfl) (fun _ _ _ h => h) (Or.inl ⟨by kernel_rfl, ?_⟩) (by assumption) ?_
          rotate_left
          · (intro w hSw; (try dsimp only at hSw); (try obtain ⟨⟨c0, c1, c2, c3, c4, c5, c6, c7, c8⟩, h7, h2, hB⟩ := hSw); go_simp); (try with_reducible rfl)
          try simp only [Act.put, List.getElem_toArray, List.getElem_cons_succ, List.getElem_cons_zero, List.setIfInBounds_toArray, List.set_cons_zero, List.set_cons_succ]
          refine wpAnyH_take (i := 10) (v := ?_) rfl (by kernel_rfl) (by kernel_rfl) (by kernel_rfl) (fun _ _ _ h => h) (Or.inl ⟨by kernel_rfl, ?_⟩) (by assumption) ?_
          rotate_left
          · (intro w hSw; (try dsimp only at hSw); (try obtain ⟨⟨c0, c1, c2, c3, c4, c5, c6, c7, c8⟩, h7, h2, hB⟩ := hSw); go_simp); (try with_reducible rfl)
          try simp only [Act.put, List.getElem_toArray, List.getElem_cons_succ, List.getElem_cons_zero, List.setIfInBounds_toArray, List.set_cons_zero, List.set_cons_succ]
          refine wpAnyH_take (i := 11) (v := ?_) rfl (by kernel_rfl) (by kernel_rfl) (by kernel_rfl) (fun _ _ _ h => h) (Or.inl ⟨by kernel_rfl, ?_⟩) (by assumption) ?_
          rotate_left
          · (intro w hSw; (try dsimp only at hSw); (try obtain ⟨⟨c0, c1, c2, c3, c4, c5, c6, c7, c8⟩, h7, h2, hB⟩ := hSw); go_simp); (try with_reducible rfl)
          try simp only [Act.put, List.getElem_toArray, List.getElem_cons_succ, List.getElem_cons_zero, List.setIfInBounds_toArray, List.set_cons_zero, List.set_cons_succ]
          refine wpAnyH_take (i := 12) (v := ?_) rfl (by kernel_rfl) (by kernel_rfl) (by kernel_rfl) (fun _ _ _ h => h) (Or.inl ⟨by kernel_rfl, ?_⟩) (by assumption) ?_
          rotate_left
          · (intro w hSw; (try dsimp only at hSw); (try obtain ⟨⟨c0, c1, c2, c3, c4, c5, c6, c7, c8⟩, h7, h2, hB⟩ := hSw); go_simp); (try with_reducible rfl)
          try simp only [Act.put, List.getElem_toArray, List.getElem_cons_succ, List.getElem_cons_zero, List.setIfInBounds_toArray, List.set_cons_zero, List.set_cons_succ]
          refine wpAnyH_take (i := 13) (v := ?_) rfl (by kernel_rfl) (by kernel_rfl) (by kernel_rfl) (fun _ _ _ h => h) (Or.inl ⟨by kernel_rfl, ?_⟩) (by assumption) ?_
          rotate_left
          · (intro w hSw; (try dsimp only at hSw); (try obtain ⟨⟨c0, c1, c2, c3, c4, c5, c6, c7, c8⟩, h7, h2, hB⟩ := hSw); go_simp); (try with_reducible rfl)
          try simp only [Act.put, List.getElem_toArray, List.getElem_cons_succ, List.getElem_cons_zero, List.setIfInBounds_toArray, List.set_cons_zero, List.set_cons_succ]
          refine wpAnyH_take (i := 14) (v := ?_) rfl (by kernel_rfl) (by kernel_rfl) (by kernel_rfl) (fun _ _ _ h => h) (Or.inl ⟨by kernel_rfl, ?_⟩) (by assumption) ?_
          rotate_left
          · (intro w hSw; (try dsimp only at hSw); (try obtain ⟨⟨c0, c1, c2, c3, c4, c5, c6, c7, c8⟩, h7, h2, hB⟩ := hSw); go_simp); (try with_reducible rfl)
          try simp only [Act.put, List.getElem_toArray, List.getElem_cons_succ, List.getElem_cons_zero, List.setIfInBounds_toArray, List.set_cons_zero, List.set_cons_succ]
          refine wpAnyH_ready (rs := [15, 19]) (by kernel_rfl) (by simp) ?_
          refine AllReadyH.cons rfl (fun K hK => ?_) (AllReadyH.cons rfl (fun K hK => ?_) AllReadyH.nil)
          · go_simp
            have hHn := hHeld
            obtain ⟨⟨c0, c1, c2, c3, c4, c5, c6, c7, c8⟩, h7, h2, hB⟩ := hHn
            refine (HA.out _ (HL.out.below hB (Nat.le_refl _))).mono ?_
            rintro e wN ⟨rfl, hBN⟩
            clear c0 c1 c2 c3 c4 c5 c6 c7 c8 h7 h2 hB
            refine hK.out _ _ ?_ (fun hHeld => ?_)
            · (try dsimp only); obtain ⟨⟨c0, c1, c2, c3, c4, c5, c6, c7, c8⟩, h7, h2, hB⟩ := hHeld; exact ⟨⟨cell_keep hBN c0, cell_keep hBN c1, cell_keep hBN c2, cell_keep hBN c3, cell_keep hBN c4, cell_keep hBN c5, cell_keep hBN c6, cell_keep hBN c7, cell_keep hBN c8⟩, h7.beside hBN, h2.beside hBN, hB.trans (hBN.mono hB.size)⟩
            clear hK K
            try simp only [Act.put, List.getElem_toArray, List.getElem_cons_succ, List.getElem_cons_zero, List.setIfInBounds_toArray, List.set_cons_zero, List.set_cons_succ]
            have hHeldA := hHeld
            refine wpAnyH_take (i := 16) (v := ?_) rfl (by kernel_rfl) (by kernel_rfl) (by kernel_rfl) (fun _ _ _ h => h) (Or.inl ⟨by kernel_rfl, ?_⟩) (by assumption) ?_
            rotate_left
            · (intro w hSw; (try dsimp only at hSw); (try obtain ⟨⟨c0, c1, c2, c3, c4, c5, c6, c7, c8⟩, h7, h2, hB⟩ := hSw); go_simp); (try with_reducible rfl)
            try simp only [Act.put, List.getElem_toArray, List.getElem_cons_succ, List.getElem_cons_zero, List.setIfInBounds_toArray, List.set_cons_zero, List.set_cons_succ]
            refine wpAnyH_take (i := 17) (v := ?_) rfl (by kernel_rfl) (by kernel_rfl) (by kernel_rfl) (fun _ _ _ h => h) (Or.inl ⟨by kernel_rfl, ?_⟩) (by assumption) ?_
            rotate_left
            · (intro w hSw; (try dsimp only at hSw); (try obtain ⟨⟨c0, c1, c2, c3, c4, c5, c6, c7, c8⟩, h7, h2, hB⟩ := hSw); go_simp); (try with_reducible rfl)
            try simp only [Act.put, List.getElem_toArray, List.getElem_cons_succ, List.getElem_cons_zero, List.setIfInBounds_toArray, List.set_cons_zero, List.set_cons_succ]
            refine wpAnyH_take (i := 18) (v := ?_) rfl (by kernel_rfl) (by kernel_rfl) (by kernel_rfl) (fun _ _ _ h => h) (Or.inl ⟨by kernel_rfl, ?_⟩) (by assumption) ?_
            rotate_left
            · (intro w hSw; (try dsimp only at hSw); (try obtain ⟨⟨c0, c1, c2, c3, c4, c5, c6, c7, c8⟩, h7, h2, hB⟩ := hSw); go_simp); (try with_reducible rfl)
            try simp only [Act.put, List.getElem_toArray, List.getElem_cons_succ, List.getElem_cons_zero, List.setIfInBounds_toArray, List.set_cons_zero, List.set_cons_succ]
            refine wpAnyH_ready (rs := [19]) (by kernel_rfl) (by simp) ?_
            refine AllReadyH.cons rfl (fun K hK => ?_) ?_
            rotate_left
            · exact AllReadyH.nil
            go_simp
            have hBA := (Below.refl _ wN).alloc (Nat.le_refl _) (.cells #[.bool false, .int .i64 0] 44)
            refine hK.out _ _ ?_ (fun hHeld => ?_)
            · (try dsimp only); have hBN := hBA; obtain ⟨⟨c0, c1, c2, c3, c4, c5, c6, c7, c8⟩, h7, h2, hB⟩ := hHeld; exact ⟨⟨cell_keep hBN c0, cell_keep hBN c1, cell_keep hBN c2, cell_keep hBN c3, cell_keep hBN c4, cell_keep hBN c5, cell_keep hBN c6, cell_keep hBN c7, cell_keep hBN c8⟩, h7.beside hBN, h2.beside hBN, hB.trans (hBN.mono hB.size)⟩
            clear hK K
            try simp only [Act.put, List.getElem_toArray, List.getElem_cons_succ, List.getElem_cons_zero, List.setIfInBounds_toArray, List.set_cons_zero, List.set_cons_succ]
            refine wpAnyH_take (i := 20) (v := ?_) rfl (by kernel_rfl) (by kernel_rfl) (by kernel_rfl) (fun _ _ _ h => h) (Or.inl ⟨by kernel_rfl, ?_⟩) (by assumption) ?_
            rotate_left
            · (intro w hSw; (try dsimp only at hSw); (try obtain ⟨⟨c0, c1, c2, c3, c4, c5, c6, c7, c8⟩, h7, h2, hB⟩ := hSw); go_simp); (try with_reducible rfl)
            try simp only [Act.put, List.getElem_toArray, List.getElem_cons_succ, List.getElem_cons_zero, List.setIfInBounds_toArray, List.set_cons_zero, List.set_cons_succ]
            have hQ := Two.new wN 44 (.bool false) (.int .i64 0)
            have hqlt : w1.heap.size + 1 < wN.heap.size := by
              obtain ⟨⟨c0, c1, c2, c3, c4, c5, c6, c7, c8⟩, h7, h2, hB⟩ := hHeldA
              exact h2.lt
            clear hHeldA
            generalize wN.alloc (.cells #[.bool false, .int .i64 0] 44) = W3 at hHeld hQ ⊢
            generalize wN.heap.size = q at hQ hqlt ⊢
            refine wpAnyH_ready (rs := [21]) (by kernel_rfl) (by simp) ?_
            refine AllReadyH.cons rfl (fun K hK => ?_) ?_
            rotate_left
            · exact AllReadyH.nil
            have hHn := hHeld
            obtain ⟨⟨c0, c1, c2, c3, c4, c5, c6, c7, c8⟩, h7, h2, hB⟩ := hHn
            have hQ4 := hQ.s (.bool y1) (.int .i64 y2)
            have f0 := hQ.fz 0
            have f1 := hQ.fz 1
            have g0 := hQ.c0
            have g1 := hQ.c1
            have hws : w.heap.size ≤ w1.heap.size := HB1.out.size
            have hKeep := And.intro ((h7.other (p := ⟨q, 0, none⟩) (by show _ ≠ q; omega) (.bool y1)).other (p := ⟨q, 1, none⟩) (by show _ ≠ q; omega) (.int .i64 y2)) (And.intro ((h2.other (p := ⟨q, 0, none⟩) (by show _ ≠ q; omega) (.bool y1)).other (p := ⟨q, 1, none⟩) (by show _ ≠ q; omega) (.int .i64 y2)) (Below.set2 hB (b := q) (by omega) (.bool y1) (.int .i64 y2)))
            go_simp
            refine hK.out _ _ ?_ (fun hHeld => ?_)
            · (try dsimp only); exact ⟨⟨cell_set2 c0 (by omega), cell_set2 c1 (by omega), cell_set2 c2 (by omega), cell_set2 c3 (by omega), cell_set2 c4 (by omega), cell_set2 c5 (by omega), cell_set2 c6 (by omega), cell_set2 c7 (by omega), cell_set2 c8 (by omega)⟩, hKeep.1, hKeep.2.1, hKeep.2.2⟩
            clear hK K f0 f1 g0 g1 h7 h2 hB c0 c1 c2 c3 c4 c5 c6 c7 c8 hQ
            try simp only [Act.put, List.getElem_toArray, List.getElem_cons_succ, List.getElem_cons_zero, List.setIfInBounds_toArray, List.set_cons_zero, List.set_cons_succ]
            refine wpAnyH_done (by kernel_rfl) ?_ _
            refine NoPanic.normal ?_
            clear hHeld
            generalize (W3.setCell ⟨q, 0, none⟩ (.bool y1)).setCell ⟨q, 1, none⟩ (.int .i64 y2) = W4 at hQ4 hKeep ⊢
            obtain ⟨h7, h2, hB⟩ := hKeep
            have hL4 := HL.out.below hB (Nat.le_refl _)
            have hbw : b < w.heap.size := HL.out.lt (by omega) b o rfl
            have hc4 := hL4.cell b o rfl k x HXK.out
            have hc5 := cell_set2 (b' := w1.heap.size + 1) (u0 := .bool y1) (u1 := .int .i64 y2) hc4 (by omega)
            have p0 := hQ4.c0
            have p1 := hQ4.c1
            have f0 := h2.fz 0
            have f1 := h2.fz 1
            have g0 := h2.c0
            have g1 := h2.c1
            have HR := Lib.hid (And.intro ((h7.other (p := ⟨w1.heap.size + 1, 0, none⟩) (by simp) (.bool y1)).other (p := ⟨w1.heap.size + 1, 1, none⟩) (by simp) (.int .i64 y2)) (And.intro (h2.s (.bool y1) (.int .i64 y2)) (Below.set2 hB (b := w1.heap.size + 1) (by omega) (.bool y1) (.int .i64 y2))))
            clear h7 h2 hB hL4 hQ4 hc4
            cases ov
            · cases x
              · obtain rfl : ov' = false := by rw [← HOV.out]; simp
                go_wp2
                go_roundw
                case rel =>
                  refine ⟨k + 1, false, by omega, by simp, rfl, fun h => absurd h (by omega), HR.out.1, ?_, HR.out.2.2⟩
                  rw [HY.out]
                  exact HR.out.2.1
                case measure => simp [RowKit.intOf]; omega
              · by_cases hk0 : 0 < k
                · have r0 : (0 : Int) < (k : Int) := by omega
                  have r1 : decide ((0 : Int) < (k : Int)) = true := by simp; omega
                  obtain rfl : ov' = true := by rw [← HOV.out]; simp [hk0]
                  go_wp2
                  go_roundw
                  case rel =>
                    refine ⟨k + 1, true, by omega, by simp, rfl, fun h => absurd h (by omega), HR.out.1, ?_, HR.out.2.2⟩
                    rw [HY.out]
                    exact HR.out.2.1
                  case measure => simp [RowKit.intOf]; omega
                · have r0 : ¬ (0 : Int) < (k : Int) := by omega
                  have r1 : decide ((0 : Int) < (k : Int)) = false := by simp; omega
                  obtain rfl : ov' = false := by rw [← HOV.out]; simp; try omega
                  clear h00
                  go_wp2
                  go_roundw
                  case rel =>
                    refine ⟨k + 1, false, by omega, by simp, rfl, fun h => absurd h (by omega), HR.out.1, ?_, HR.out.2.2⟩
                    rw [HY.out]
                    exact HR.out.2.1
                  case measure => simp [RowKit.intOf]; omega
            · cases x
              · obtain rfl : ov' = true := by rw [← HOV.out]; simp
                go_wp2
                go_roundw
                case rel =>
                  refine ⟨k + 1, true, by omega, by simp, rfl, fun h => absurd h (by omega), HR.out.1, ?_, HR.out.2.2⟩
                  rw [HY.out]
                  exact HR.out.2.1
                case measure => simp [RowKit.intOf]; omega
              · by_cases hk0 : 0 < k
                · have r0 : (0 : Int) < (k : Int) := by omega
                  have r1 : decide ((0 : Int) < (k : Int)) = true := by simp; omega
                  obtain rfl : ov' = true := by rw [← HOV.out]; simp [hk0]
                  go_wp2
                  go_roundw
                  case rel =>
                    refine ⟨k + 1, true, by omega, by simp, rfl, fun h => absurd h (by omega), HR.out.1, ?_, HR.out.2.2⟩
                    rw [HY.out]
                    exact HR.out.2.1
                  case measure => simp [RowKit.intOf]; omega
                · have r0 : ¬ (0 : Int) < (k : Int) := by omega
                  have r1 : decide ((0 : Int) < (k : Int)) = false := by simp; omega
                  exact absurd (h00 (by omega)) (by simp)
          · have hQ0 : Two (wr.drew.alloc (.cells #[.bool false, .int .i64 0] 44)) wr.heap.size 44 (.bool false) (.int .i64 0) := Two.new wr.drew 44 (.bool false) (.int .i64 0)
            go_simp
            have hBA := (Below.refl _ wr.drew).alloc (Nat.le_refl _) (.cells #[.bool false, .int .i64 0] 44)
            refine hK.out _ _ ?_ (fun hHeld => ?_)
            · (try dsimp only); have hBN := hBA; obtain ⟨⟨c0, c1, c2, c3, c4, c5, c6, c7, c8⟩, h7, h2, hB⟩ := hHeld; exact ⟨⟨cell_keep hBN c0, cell_keep hBN c1, cell_keep hBN c2, cell_keep hBN c3, cell_keep hBN c4, cell_keep hBN c5, cell_keep hBN c6, cell_keep hBN c7, cell_keep hBN c8⟩, h7.beside hBN, h2.beside hBN, hB.trans (hBN.mono hB.size)⟩
            clear hK K
            try simp only [Act.put, List.getElem_toArray, List.getElem_cons_succ, List.getElem_cons_zero, List.setIfInBounds_toArray, List.set_cons_zero, List.set_cons_succ]
            refine wpAnyH_ready (rs := [15]) (by kernel_rfl) (by simp) ?_
            refine AllReadyH.cons rfl (fun K hK => ?_) ?_
            rotate_left
            · exact AllReadyH.nil
            go_simp
            have hHn := hHeld
            obtain ⟨⟨c0, c1, c2, c3, c4, c5, c6, c7, c8⟩, h7, h2, hB⟩ := hHn
            refine (HA.out _ (HL.out.below hB (Nat.le_refl _))).mono ?_
            rintro e wN ⟨rfl, hBN⟩
            clear c0 c1 c2 c3 c4 c5 c6 c7 c8 h7 h2 hB
            refine hK.out _ _ ?_ (fun hHeld => ?_)
            · (try dsimp only); obtain ⟨⟨c0, c1, c2, c3, c4, c5, c6, c7, c8⟩, h7, h2, hB⟩ := hHeld; exact ⟨⟨cell_keep hBN c0, cell_keep hBN c1, cell_keep hBN c2, cell_keep hBN c3, cell_keep hBN c4, cell_keep hBN c5, cell_keep hBN c6, cell_keep hBN c7, cell_keep hBN c8⟩, h7.beside hBN, h2.beside hBN, hB.trans (hBN.mono hB.size)⟩
            clear hK K
            try simp only [Act.put, List.getElem_toArray, List.getElem_cons_succ, List.getElem_cons_zero, List.setIfInBounds_toArray, List.set_cons_zero, List.set_cons_succ]
            refine wpAnyH_take (i := 16) (v := ?_) rfl (by kernel_rfl) (by kernel_rfl) (by kernel_rfl) (fun _ _ _ h => h) (Or.inl ⟨by kernel_rfl, ?_⟩) (by assumption) ?_
            rotate_left
            · (intro w hSw; (try dsimp only at hSw); (try obtain ⟨⟨c0, c1, c2, c3, c4, c5, c6, c7, c8⟩, h7, h2, hB⟩ := hSw); go_simp); (try with_reducible rfl)
            try simp only [Act.put, List.getElem_toArray, List.getElem_cons_succ, List.getElem_cons_zero, List.setIfInBounds_toArray, List.set_cons_zero, List.set_cons_succ]
            refine wpAnyH_take (i := 17) (v := ?_) rfl (by kernel_rfl) (by kernel_rfl) (by kernel_rfl) (fun _ _ _ h => h) (Or.inl ⟨by kernel_rfl, ?_⟩) (by assumption) ?_
            rotate_left
            · (intro w hSw; (try dsimp only at hSw); (try obtain ⟨⟨c0, c1, c2, c3, c4, c5, c6, c7, c8⟩, h7, h2, hB⟩ := hSw); go_simp); (try with_reducible rfl)
            try simp only [Act.put, List.getElem_toArray, List.getElem_cons_succ, List.getElem_cons_zero, List.setIfInBounds_toArray, List.set_cons_zero, List.set_cons_succ]
            refine wpAnyH_take (i := 18) (v := ?_) rfl (by kernel_rfl) (by kernel_rfl) (by kernel_rfl) (fun _ _ _ h => h) (Or.inl ⟨by kernel_rfl, ?_⟩) (by assumption) ?_
            rotate_left
            · (intro w hSw; (try dsimp only at hSw); (try obtain ⟨⟨c0, c1, c2, c3, c4, c5, c6, c7, c8⟩, h7, h2, hB⟩ := hSw); go_simp); (try with_reducible rfl)
            try simp only [Act.put, List.getElem_toArray, List.getElem_cons_succ, List.getElem_cons_zero, List.setIfInBounds_toArray, List.set_cons_zero, List.set_cons_succ]
            refine wpAnyH_take (i := 20) (v := ?_) rfl (by kernel_rfl) (by kernel_rfl) (by kernel_rfl) (fun _ _ _ h => h) (Or.inl ⟨by kernel_rfl, ?_⟩) (by assumption) ?_
            rotate_left
            · (intro w hSw; (try dsimp only at hSw); (try obtain ⟨⟨c0, c1, c2, c3, c4, c5, c6, c7, c8⟩, h7, h2, hB⟩ := hSw); go_simp); (try with_reducible rfl)
            try simp only [Act.put, List.getElem_toArray, List.getElem_cons_succ, List.getElem_cons_zero, List.setIfInBounds_toArray, List.set_cons_zero, List.set_cons_succ]
            have hQ := hQ0.beside hBN
            have hqlt : w1.heap.size + 1 < wr.heap.size := H2.out.lt
            generalize wr.heap.size = q at hQ hqlt ⊢
            clear hBN
            generalize wN = W3 at hHeld hQ ⊢
            refine wpAnyH_ready (rs := [21]) (by kernel_rfl) (by simp) ?_
            refine AllReadyH.cons rfl (fun K hK => ?_) ?_
            rotate_left
            · exact AllReadyH.nil
            have hHn := hHeld
            obtain ⟨⟨c0, c1, c2, c3, c4, c5, c6, c7, c8⟩, h7, h2, hB⟩ := hHn
            have hQ4 := hQ.s (.bool y1) (.int .i64 y2)
            have f0 := hQ.fz 0
            have f1 := hQ.fz 1
            have g0 := hQ.c0
            have g1 := hQ.c1
            have hws : w.heap.size ≤ w1.heap.size := HB1.out.size
            have hKeep := And.intro ((h7.other (p := ⟨q, 0, none⟩) (by show _ ≠ q; omega) (.bool y1)).other (p := ⟨q, 1, none⟩) (by show _ ≠ q; omega) (.int .i64 y2)) (And.intro ((h2.other (p := ⟨q, 0, none⟩) (by show _ ≠ q; omega) (.bool y1)).other (p := ⟨q, 1, none⟩) (by show _ ≠ q; omega) (.int .i64 y2)) (Below.set2 hB (b := q) (by omega) (.bool y1) (.int .i64 y2)))
            go_simp
            refine hK.out _ _ ?_ (fun hHeld => ?_)
            · (try dsimp only); exact ⟨⟨cell_set2 c0 (by omega), cell_set2 c1 (by omega), cell_set2 c2 (by omega), cell_set2 c3 (by omega), cell_set2 c4 (by omega), cell_set2 c5 (by omega), cell_set2 c6 (by omega), cell_set2 c7 (by omega), cell_set2 c8 (by omega)⟩, hKeep.1, hKeep.2.1, hKeep.2.2⟩
            clear hK K f0 f1 g0 g1 h7 h2 hB c0 c1 c2 c3 c4 c5 c6 c7 c8 hQ
            try simp only [Act.put, List.getElem_toArray, List.getElem_cons_succ, List.getElem_cons_zero, List.setIfInBounds_toArray, List.set_cons_zero, List.set_cons_succ]
            refine wpAnyH_done (by kernel_rfl) ?_ _
            refine NoPanic.normal ?_
            clear hHeld
            generalize (W3.setCell ⟨q, 0, none⟩ (.bool y1)).setCell ⟨q, 1, none⟩ (.int .i64 y2) = W4 at hQ4 hKeep ⊢
            obtain ⟨h7, h2, hB⟩ := hKeep
            have hL4 := HL.out.below hB (Nat.le_refl _)
            have hbw : b < w.heap.size := HL.out.lt (by omega) b o rfl
            have hc4 := hL4.cell b o rfl k x HXK.out
            have hc5 := cell_set2 (b' := w1.heap.size + 1) (u0 := .bool y1) (u1 := .int .i64 y2) hc4 (by omega)
            have p0 := hQ4.c0
            have p1 := hQ4.c1
            have f0 := h2.fz 0
            have f1 := h2.fz 1
            have g0 := h2.c0
            have g1 := h2.c1
            have HR := Lib.hid (And.intro ((h7.other (p := ⟨w1.heap.size + 1, 0, none⟩) (by simp) (.bool y1)).other (p := ⟨w1.heap.size + 1, 1, none⟩) (by simp) (.int .i64 y2)) (And.intro (h2.s (.bool y1) (.int .i64 y2)) (Below.set2 hB (b := w1.heap.size + 1) (by omega) (.bool y1) (.int .i64 y2))))
            clear h7 h2 hB hL4 hQ4 hc4
            cases ov
            · cases x
              · obtain rfl : ov' = false := by rw [← HOV.out]; simp
                go_wp2
                go_roundw
                case rel =>
                  refine ⟨k + 1, false, by omega, by simp, rfl, fun h => absurd h (by omega), HR.out.1, ?_, HR.out.2.2⟩
                  rw [HY.out]
                  exact HR.out.2.1
                case measure => simp [RowKit.intOf]; omega
              · by_cases hk0 : 0 < k
                · have r0 : (0 : Int) < (k : Int) := by omega
                  have r1 : decide ((0 : Int) < (k : Int)) = true := by simp; omega
                  obtain rfl : ov' = true := by rw [← HOV.out]; simp [hk0]
                  go_wp2
                  go_roundw
                  case rel =>
                    refine ⟨k + 1, true, by omega, by simp, rfl, fun h => absurd h (by omega), HR.out.1, ?_, HR.out.2.2⟩
                    rw [HY.out]
                    exact HR.out.2.1
                  case measure => simp [RowKit.intOf]; omega
                · have r0 : ¬ (0 : Int) < (k : Int) := by omega
                  have r1 : decide ((0 : Int) < (k : Int)) = false := by simp; omega
                  obtain rfl : ov' = false := by rw [← HOV.out]; simp; try omega
                  clear h00
                  go_wp2
                  go_roundw
                  case rel =>
                    refine ⟨k + 1, false, by omega, by simp, rfl, fun h => absurd h (by omega), HR.out.1, ?_, HR.out.2.2⟩
                    rw [HY.out]
                    exact HR.out.2.1
                  case measure => simp [RowKit.intOf]; omega
            · cases x
              · obtain rfl : ov' = true := by rw [← HOV.out]; simp
                go_wp2
                go_roundw
                case rel =>
                  refine ⟨k + 1, true, by omega, by simp, rfl, fun h => absurd h (by omega), HR.out.1, ?_, HR.out.2.2⟩
                  rw [HY.out]
                  exact HR.out.2.1
                case measure => simp [RowKit.intOf]; omega
              · by_cases hk0 : 0 < k
                · have r0 : (0 : Int) < (k : Int) := by omega
                  have r1 : decide ((0 : Int) < (k : Int)) = true := by simp; omega
                  obtain rfl : ov' = true := by rw [← HOV.out]; simp [hk0]
                  go_wp2
                  go_roundw
                  case rel =>
                    refine ⟨k + 1, true, by omega, by simp, rfl, fun h => absurd h (by omega), HR.out.1, ?_, HR.out.2.2⟩
                    rw [HY.out]
                    exact HR.out.2.1
                  case measure => simp [RowKit.intOf]; omega
                · have r0 : ¬ (0 : Int) < (k : Int) := by omega
                  have r1 : decide ((0 : Int) < (k : Int)) = false := by simp; omega
                  exact absurd (h00 (by omega)) (by simp)
        · obtain rfl : k = ln := by omega
          clear h7 h2 hL
          go_wp2
          go_ret
          exact ⟨rfl, hB⟩

end Go.Proofs.YtaamhjjdhebjfaaDoor
