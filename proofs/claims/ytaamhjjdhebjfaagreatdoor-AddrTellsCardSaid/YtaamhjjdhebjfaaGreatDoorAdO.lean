/- shown. -/
import Derived.Test.YtaamhjjdhebjfaaGreatDoorAdN
namespace Go.Proofs.YtaamhjjdhebjfaaGreatDoor
open Go.RowKit Go.Lib
set_option linter.unusedVariables false
set_option linter.unusedSimpArgs false

def R24 : Rg := ⟨⟨1, 2, 0⟩, ⟨1, 4, 0⟩, false⟩
theorem itoa_dg (n : Nat) (h : n < 10) : itoa (n : Int) = [UInt8.ofNat (48 + n)] := by rw [itoa_nat, decDigits_one h]
theorem R24_text : textR R24 = [50, 44, 52] := by
  have h2 : itoa 2 = [50] := itoa_dg 2 (by omega)
  have h4 : itoa 4 = [52] := itoa_dg 4 (by omega)
  simp [textR, textA, textB, R24, h2, h4]
theorem R24_may : mayR R24 = true := by decide
theorem R24_par : parR [50, 44, 52] = (R24, 0) := by rw [← R24_text]; exact par_text R24_may
def stS (k : Nat) : Bool × Int := if k = 3 ∨ k = 4 then (true, 4) else (false, 0)
def bS (k : Nat) : Bool := decide (2 ≤ k ∧ k ≤ 4)
def nS (k : Nat) : Int := if k ≤ 2 then 0 else if k = 3 then 2 else if k = 4 then 23 else 234
theorem shows_step (k : Nat) (h1 : 1 ≤ k) (h5 : k ≤ 5) : askA R24 (stS k) (k : Int) (decide (k = 5)) [] = (bS k, stS (k + 1)) ∧ nS (k + 1) = (if bS k then nS k * 10 + k else nS k) ∧ 0 ≤ nS k ∧ nS k ≤ 234 := by
  rcases (by omega : k = 1 ∨ k = 2 ∨ k = 3 ∨ k = 4 ∨ k = 5) with rfl | rfl | rfl | rfl | rfl <;> decide

set_option maxRecDepth 100000 in
set_option maxHeartbeats 8000000 in
theorem shown_c (w : World) (hf : Fit6 w) : Calls Tryz.prog 5 #[] w fun e w' => e = .returned (.bool true) ∧ Below w.heap.size w w' := by
  have P1 := parse_c ⟨#[50, 44, 52]⟩ (by decide) w hf
  rw [show parR (⟨#[50, 44, 52]⟩ : ByteArray).data.toList = (R24, 0) from R24_par, show parV (R24, 0) = .tuple #[.agg #[.int .i64 1, .int .i64 2, .int .i64 0, .int .i64 1, .int .i64 4, .int .i64 0, .bool false], .int .i64 0] from rfl] at P1
  have HP := Lib.hid P1
  clear P1 hf
  go_enter Tryz.func5, Tryz.ntmps5
  go_wp2_with fail
  refine HP.out.mono ?_
  rintro e w1 ⟨rfl, hB⟩
  have HB1 := Lib.hid hB
  clear hB
  go_wp2_with fail
  have hlt1 : w.heap.size ≤ w1.heap.size := HB1.out.size
  go_loopw [4, 5] (fun n i wr => ∃ k : Nat, 1 ≤ k ∧ k ≤ 6 ∧ i = .int .i64 k ∧ n = .int .i64 (nS k) ∧ Seven wr w1.heap.size 25 (.int .i64 1) (.int .i64 2) (.int .i64 0) (.int .i64 1) (.int .i64 4) (.int .i64 0) (.bool false) ∧ Two wr (w1.heap.size + 1) 44 (.bool (stS k).1) (.int .i64 (stS k).2) ∧ Below w.heap.size w wr) (fun _ i _ => 6 - (RowKit.intOf i).toNat)
  case atStart =>
    refine ⟨1, by omega, by omega, rfl, rfl, (Seven.new w1 _ _ _ _ _ _ _ _).alloc _, ?_, ?_⟩
    · have h := Two.new (w1.alloc (.cells #[.int .i64 1, .int .i64 2, .int .i64 0, .int .i64 1, .int .i64 4, .int .i64 0, .bool false] 25)) 44 (.bool false) (.int .i64 0)
      rw [World.size_alloc] at h
      exact h
    · have h := HB1.out.alloc HB1.out.size (.cells #[.int .i64 1, .int .i64 2, .int .i64 0, .int .i64 1, .int .i64 4, .int .i64 0, .bool false] 25)
      exact h.alloc h.size _
  case round =>
    obtain ⟨k, hk1, hk6, rfl, rfl, h7, h2, hB⟩ := hrel
    by_cases hlt : k ≤ 5
    · obtain ⟨hs1, hs2, hs3, hs4⟩ := shows_step k hk1 hlt
      have A1 := fun w => Ask_c R24 (stS k) k (decide (k = 5)) none 0 0 [] (mayR.nums R24_may) (by omega) (by omega) w (Bls.none_ w)
      rw [hs1, show rgv R24 = .agg #[.int .i64 1, .int .i64 2, .int .i64 0, .int .i64 1, .int .i64 4, .int .i64 0, .bool false] from rfl, show R24.not = false from rfl] at A1
      have HSx := Lib.hid hs2
      have hx1 : ∃ x, stS (k + 1) = x := ⟨_, rfl⟩
      obtain ⟨⟨y1, y2⟩, hy⟩ := hx1
      obtain ⟨⟨x1, x2⟩, hx⟩ : ∃ x, stS k = x := ⟨_, rfl⟩
      obtain ⟨v, hv⟩ : ∃ v, nS k = v := ⟨_, rfl⟩
      obtain ⟨b, hb⟩ : ∃ b, bS k = b := ⟨_, rfl⟩
      rw [hy, hx, hb] at A1
      rw [hx] at h2
      rw [hv] at hs3 hs4
      rw [hv, hb] at HSx
      rw [hv]
      unfold stv lnv asv stv at A1
      rw [show (b != false) = b by cases b <;> rfl] at A1
      simp only at A1 h2
      have e5 : ((k : Int) == 5) = decide (k = 5) := by rw [Bool.eq_iff_iff]; simp; omega
      have hk5 : (k : Int) ≤ 5 := by omega
      generalize decide (k = 5) = L at A1 e5
      have HA := Lib.hid A1
      have HY := Lib.hid hy
      have H7 := Lib.hid h7
      have H2 := Lib.hid h2
      have HB := Lib.hid hB
      have q0 := h7.c0
      have q1 := h7.c1
      have q2 := h7.c2
      have q3 := h7.c3
      have q4 := h7.c4
      have q5 := h7.c5
      have q6 := h7.c6
      have p0 := h2.c0
      have p1 := h2.c1
      have hltr : w1.heap.size + 1 < wr.heap.size := h2.lt
      clear A1 hy hx hv hb hs2 h7 h2 hB
      go_wp2_with fail
      refine (HA.out _).mono ?_
      rintro e w2 ⟨rfl, hB⟩
      have H7' := Lib.hid (H7.out.beside hB)
      have H2' := Lib.hid (H2.out.beside hB)
      have HB' := Lib.hid (HB.out.trans (hB.mono HB.out.size))
      have hlt2 : w1.heap.size + 1 < w2.heap.size := H2'.out.lt
      have HT := Lib.hid (H2'.out.alloc (.cells #[.bool y1, .int .i64 y2] 44))
      have c0 := HT.out.c0
      have c1 := HT.out.c1
      have f0 := HT.out.fz 0
      have f1 := HT.out.fz 1
      have d0 := H2'.out.c0
      have d1 := H2'.out.c1
      have g0 := H2'.out.fz 0
      have g1 := H2'.out.fz 1
      clear hB q0 q1 q2 q3 q4 q5 q6 p0 p1
      have HR := Lib.hid (And.intro (((H7'.out.other (p := ⟨w1.heap.size + 1, 0, none⟩) (by simp) (.bool y1)).other (p := ⟨w1.heap.size + 1, 1, none⟩) (by simp) (.int .i64 y2)).alloc (.cells #[.bool y1, .int .i64 y2] 44))
        (And.intro ((H2'.out.s (.bool y1) (.int .i64 y2)).alloc (.cells #[.bool y1, .int .i64 y2] 44)) (Below.set2 HB'.out (b := w1.heap.size + 1) (by omega) (.bool y1) (.int .i64 y2))))
      cases b
      · have HS := Lib.hid (show nS (k + 1) = v by simpa using HSx.out)
        go_wp2
        go_roundw
        case rel =>
          refine ⟨k + 1, by omega, by omega, by simp, by rw [HS.out], HR.out.1, ?_, HR.out.2.2.alloc HR.out.2.2.size _⟩
          rw [HY.out]
          exact HR.out.2.1
        case measure => simp [RowKit.intOf]; omega
      · have HS := Lib.hid (show nS (k + 1) = v * 10 + k by simpa using HSx.out)
        have w1' : IntKind.i64.wrap (v * 10) = v * 10 := by simp [IntKind.wrap, IntKind.signed, IntKind.bits]; omega
        have w2' : IntKind.i64.wrap (v * 10 + (k : Int)) = v * 10 + (k : Int) := by simp [IntKind.wrap, IntKind.signed, IntKind.bits]; omega
        go_wp2
        go_roundw
        case rel =>
          refine ⟨k + 1, by omega, by omega, by simp, by rw [HS.out], HR.out.1, ?_, HR.out.2.2.alloc HR.out.2.2.size _⟩
          rw [HY.out]
          exact HR.out.2.1
        case measure => simp [RowKit.intOf]; omega
    · obtain rfl : k = 6 := by omega
      have e6 : nS 6 = 234 := rfl
      rw [e6]
      go_wp2
      go_ret
      exact ⟨rfl, hB⟩

end Go.Proofs.YtaamhjjdhebjfaaGreatDoor
