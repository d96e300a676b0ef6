/- AddrLast, AddrPlus: the walks. -/
import Derived.Test.YtaamhjjdhebjfaaDoorAdP
namespace Go.Proofs.YtaamhjjdhebjfaaDoor
open Go.RowKit Go.Lib
set_option linter.unusedVariables false
set_option linter.unusedSimpArgs false

def laR (a : Nat) : Rg := ⟨⟨1, a, 0⟩, ⟨2, 0, 0⟩, false⟩
def laS (a n k : Nat) : Bool × Int := (decide (a < k ∧ k ≤ n), 0)
theorem laR_nums (a : Nat) : (laR a).Nums := ⟨fun h => absurd h (by simp [laR]), by simp [laR], by simp [laR]⟩
theorem la_step (a n k : Nat) (ha : 1 ≤ a) (hk : k ≤ n) : askA (laR a) (laS a n k) (k : Int) (decide (k = n)) [] = (decide (a ≤ k), laS a n (k + 1)) := by
  have h0 : askA (laR a) (laS a n k) (k : Int) (decide (k = n)) [] = if (laS a n k).1 then goA (laR a) (laS a n k) k (decide (k = n)) [] else if ((1 : Int) = 1 ∧ (a : Int) = 0) ∧ (k : Int) = 1 then goA (laR a) (true, 0) k (decide (k = n)) [] else if hitA ⟨1, a, 0⟩ (k : Int) (decide (k = n)) [] then (true, begA ⟨2, 0, 0⟩ k (decide (k = n))) else (false, laS a n k) := rfl
  rw [h0, if_neg (show ¬ (((1 : Int) = 1 ∧ (a : Int) = 0) ∧ (k : Int) = 1) by omega)]
  have h1 : hitA ⟨1, a, 0⟩ (k : Int) (decide (k = n)) [] = decide (k = a) := by simp [hitA]; omega
  rw [h1]
  by_cases hak : a < k
  · have e1 : laS a n k = (true, 0) := by simp [laS, hak, hk]
    rw [e1, if_pos rfl]
    have h2 : goA (laR a) (true, 0) k (decide (k = n)) [] = if (2 : Int) = 1 ∧ (0 : Int) < k then (hitA ⟨1, a, 0⟩ k (decide (k = n)) [], false, 0) else if (decide (k = n)) = true then (true, false, 0) else (true, true, 0) := rfl
    rw [h2, if_neg (by omega)]
    by_cases hkn : k = n
    · rw [if_pos (by simpa using hkn)]
      have : laS a n (k + 1) = (false, 0) := by simp [laS]; omega
      rw [this, show decide (a ≤ k) = true by simp; omega]
    · rw [if_neg (by simpa using hkn)]
      have : laS a n (k + 1) = (true, 0) := by simp [laS]; omega
      rw [this, show decide (a ≤ k) = true by simp; omega]
  · have e1 : laS a n k = (false, 0) := by simp [laS, hak]
    rw [e1, if_neg (by simp)]
    by_cases hka : k = a
    · rw [if_pos (by simpa using hka)]
      have h2 : begA ⟨2, 0, 0⟩ (k : Int) (decide (k = n)) = opn (!decide (k = n)) 0 := rfl
      rw [h2, show decide (a ≤ k) = true by simp; omega]
      by_cases hkn : k = n
      · have : laS a n (k + 1) = (false, 0) := by simp [laS]; omega
        rw [this, show decide (k = n) = true by simpa using hkn]; rfl
      · have : laS a n (k + 1) = (true, 0) := by simp [laS]; omega
        rw [this, show decide (k = n) = false by simpa using hkn]; rfl
    · rw [if_neg (by simpa using hka)]
      have : laS a n (k + 1) = (false, 0) := by simp [laS]; omega
      rw [this, show decide (a ≤ k) = false by simp; omega]

set_option maxRecDepth 100000 in
set_option maxHeartbeats 8000000 in
theorem lastW (f n : Nat) (hf : f < 256) (hn : n < 256) (w : World) (hfit : Fit6 w) :
    Calls Tryd.prog 7 #[.int .u8 f, .int .u8 n] w fun e w' => e = .returned (.bool true) ∧ Below w.heap.size w w' := by
  obtain ⟨q, hq⟩ : ∃ q, q = f % 20 := ⟨_, rfl⟩
  obtain ⟨a, ha⟩ : ∃ a, a = 1 + q := ⟨_, rfl⟩
  have e1 : IntKind.i64.wrap (1 + (q : Int)) = (a : Int) := by simp [IntKind.wrap, IntKind.signed, IntKind.bits]; omega
  have e2 : IntKind.i64.wrap (f : Int) = (f : Int) := by simp [IntKind.wrap, IntKind.signed, IntKind.bits]; omega
  have e3 : (f : Int) % 20 = (q : Int) := by omega
  have e3' : (f : Int).tmod 20 = (q : Int) := by rw [Int.tmod_eq_emod_of_nonneg (by omega)]; exact e3
  have e3w : IntKind.i64.wrap (q : Int) = (q : Int) := by simp [IntKind.wrap, IntKind.signed, IntKind.bits]; omega
  have e4 : IntKind.i64.wrap (n : Int) = (n : Int) := by simp [IntKind.wrap, IntKind.signed, IntKind.bits]; omega
  have e5 : IntKind.i64.wrap (a : Int) = (a : Int) := by simp [IntKind.wrap, IntKind.signed, IntKind.bits]; omega
  have ha1 : 1 ≤ a := by omega
  have ha2 : a ≤ 256 := by omega
  clear ha hq
  have HF := Lib.hid hfit
  have HN := Lib.hid (new72 w (.int .i64 1) (.int .i64 a) (.int .i64 0) (.int .i64 2) (.int .i64 0) (.int .i64 0) (.bool false) (.bool false) (.int .i64 0))
  have HB0 := Lib.hid (Below.al2 w (.cells #[.int .i64 1, .int .i64 a, .int .i64 0, .int .i64 2, .int .i64 0, .int .i64 0, .bool false] 29) (.cells #[.bool false, .int .i64 0] 44))
  clear hfit
  go_enter Tryd.func7, Tryd.ntmps7
  go_wp2_with fail
  go_loopw [8] (fun i wr => ∃ k : Nat, 1 ≤ k ∧ k ≤ n + 1 ∧ i = .int .i64 k ∧ Seven wr w.heap.size 29 (.int .i64 1) (.int .i64 a) (.int .i64 0) (.int .i64 2) (.int .i64 0) (.int .i64 0) (.bool false) ∧ Two wr (w.heap.size + 1) 44 (.bool (laS a n k).1) (.int .i64 (laS a n k).2) ∧ Below w.heap.size w wr) (fun i _ => n + 1 - (RowKit.intOf i).toNat)
  case atStart =>
    have e0 : laS a n 1 = (false, 0) := by simp [laS]; omega
    exact ⟨1, by omega, by omega, rfl, HN.out.1, by rw [e0]; exact HN.out.2, HB0.out⟩
  case round =>
    obtain ⟨k, hk1, hk6, rfl, h7, h2, hB⟩ := hrel
    by_cases hlt : k ≤ n
    · have t0 : (k : Int) ≤ (n : Int) := by omega
      have hL : ((k : Int) == (n : Int)) = decide (k = n) := by rw [Bool.eq_iff_iff]; simp; omega
      have hstep := la_step a n k (by omega) hlt
      have A1 := fun w => Ask_c (laR a) (laS a n k) k (decide (k = n)) none 0 0 [] (laR_nums a) (by omega) (by omega) w (Bls.none_ w)
      rw [hstep, show rgv (laR a) = .agg #[.int .i64 1, .int .i64 a, .int .i64 0, .int .i64 2, .int .i64 0, .int .i64 0, .bool false] from rfl, show (laR a).not = false from rfl] at A1
      clear hstep
      obtain ⟨⟨x1, x2⟩, hx⟩ : ∃ x, laS a n k = x := ⟨_, rfl⟩
      obtain ⟨⟨y1, y2⟩, hy⟩ : ∃ x, laS a n (k + 1) = x := ⟨_, rfl⟩
      obtain ⟨b, hb⟩ : ∃ b, decide (a ≤ k) = b := ⟨_, rfl⟩
      have hy1 : decide (a < k + 1 ∧ k + 1 ≤ n) = y1 := congrArg Prod.fst hy
      rw [hx, hy, hb] at A1
      rw [hx] at h2
      generalize decide (k = n) = L at A1 hL
      have HY := Lib.hid hy
      have HY1 := Lib.hid hy1
      have HBB := Lib.hid hb
      clear hx hy hb hy1
      unfold stv lnv asv stv at A1
      rw [show ∀ b : Bool, (b != false) = b from fun b => by cases b <;> rfl] at A1
      simp only at A1 h2
      have HA := Lib.hid A1
      have H7 := Lib.hid h7
      have H2 := Lib.hid h2
      have HB := Lib.hid hB
      have q0 := h7.c0
      have q1 := h7.c1
      have q2 := h7.c2
      have q3 := h7.c3
      have q4 := h7.c4
      have q5 := h7.c5
      have q6 := h7.c6
      have p0 := h2.c0
      have p1 := h2.c1
      have hltr : w.heap.size + 1 < wr.heap.size := h2.lt
      clear A1 h7 h2 hB
      go_wp2_with fail
      refine (HA.out _).mono ?_
      rintro e w2 ⟨rfl, hB⟩
      have H7' := Lib.hid (H7.out.beside hB)
      have H2' := Lib.hid (H2.out.beside hB)
      have HB' := Lib.hid (HB.out.trans (hB.mono HB.out.size))
      have hlt2 : w.heap.size + 1 < w2.heap.size := H2'.out.lt
      have HT := Lib.hid (H2'.out.alloc (.cells #[.bool y1, .int .i64 y2] 44))
      have c0 := HT.out.c0
      have c1 := HT.out.c1
      have f0 := HT.out.fz 0
      have f1 := HT.out.fz 1
      have d0 := H2'.out.c0
      have d1 := H2'.out.c1
      have g0 := H2'.out.fz 0
      have g1 := H2'.out.fz 1
      clear hB q0 q1 q2 q3 q4 q5 q6 p0 p1
      have HR := Lib.hid (And.intro (((H7'.out.other (p := ⟨w.heap.size + 1, 0, none⟩) (by simp) (.bool y1)).other (p := ⟨w.heap.size + 1, 1, none⟩) (by simp) (.int .i64 y2)).alloc (.cells #[.bool y1, .int .i64 y2] 44))
        (And.intro ((H2'.out.s (.bool y1) (.int .i64 y2)).alloc (.cells #[.bool y1, .int .i64 y2] 44)) (Below.set2 HB'.out (b := w.heap.size + 1) (by omega) (.bool y1) (.int .i64 y2))))
      by_cases u1 : a ≤ k
      · have r1 : (a : Int) ≤ (k : Int) := by omega
        obtain rfl : b = true := by rw [← HBB.out]; simp [u1]
        by_cases u2 : k < n
        · have r2 : (k : Int) < (n : Int) := by omega
          obtain rfl : y1 = true := by rw [← HY1.out]; simp; omega
          clear u1 u2
          go_wp2
          go_roundw
          case rel =>
            refine ⟨k + 1, by omega, by omega, by simp, HR.out.1, ?_, HR.out.2.2.alloc HR.out.2.2.size _⟩
            rw [HY.out]
            exact HR.out.2.1
          case measure => simp [RowKit.intOf]; omega
        · have r2 : ¬ (k : Int) < (n : Int) := by omega
          obtain rfl : y1 = false := by rw [← HY1.out]; simp; omega
          clear u1 u2
          go_wp2
          go_roundw
          case rel =>
            refine ⟨k + 1, by omega, by omega, by simp, HR.out.1, ?_, HR.out.2.2.alloc HR.out.2.2.size _⟩
            rw [HY.out]
            exact HR.out.2.1
          case measure => simp [RowKit.intOf]; omega
      · have r1 : ¬ (a : Int) ≤ (k : Int) := by omega
        obtain rfl : b = false := by rw [← HBB.out]; simp [u1]
        obtain rfl : y1 = false := by rw [← HY1.out]; simp; omega
        clear u1
        go_wp2
        go_roundw
        case rel =>
          refine ⟨k + 1, by omega, by omega, by simp, HR.out.1, ?_, HR.out.2.2.alloc HR.out.2.2.size _⟩
          rw [HY.out]
          exact HR.out.2.1
        case measure => simp [RowKit.intOf]; omega
    · have t0 : ¬ (k : Int) ≤ (n : Int) := by omega
      have HS := Lib.hid (shown_c wr (HF.out.below hB))
      have HB := Lib.hid hB
      clear hB h7 h2
      go_wp2_with fail
      refine HS.out.mono ?_
      rintro e w2 ⟨rfl, hB2⟩
      have HB2 := Lib.hid (HB.out.trans (hB2.mono HB.out.size))
      clear hB2
      go_wp2
      go_ret
      exact ⟨rfl, HB2.out⟩

def plR (k m : Nat) : Rg := ⟨⟨3, 0, k⟩, ⟨5, m, 0⟩, false⟩
def plS (lf i : Nat) : Bool × Int := if 0 < lf then (true, (i : Int) - 1 + lf) else (false, 0)
def plN (k m lf i : Nat) : Nat := if 0 < lf then lf - 1 else if i % k = 0 then m else 0
theorem plR_nums (k m : Nat) (hk : k ≤ 999999999) (hm : m ≤ 999999999) : (plR k m).Nums := ⟨fun h => ⟨by simp [plR], by simp [plR], by simp [plR]; omega⟩, by simp [plR], by simp [plR]; omega⟩
theorem pl_step (k m lf i : Nat) (hk : 1 ≤ k) (hi : 1 ≤ i) : askA (plR k m) (plS lf i) (i : Int) false [] = (decide (0 < lf ∨ i % k = 0), plS (plN k m lf i) (i + 1)) := by
  have h1 : hitA ⟨3, 0, k⟩ (i : Int) false [] = decide (i % k = 0) := by
    have : hitA ⟨3, 0, k⟩ (i : Int) false [] = if (k : Int) ≤ 0 then decide ((i : Int) = 0) else decide ((0 : Int) ≤ i ∧ ((i : Int) - 0) % k = 0) := rfl
    rw [this, if_neg (by omega), Int.sub_zero]
    rw [Bool.eq_iff_iff]
    simp only [decide_eq_true_eq]
    omega
  have h0 : askA (plR k m) (plS lf i) (i : Int) false [] = if (plS lf i).1 then goA (plR k m) (plS lf i) i false [] else if ((3 : Int) = 1 ∧ (0 : Int) = 0) ∧ (i : Int) = 1 then goA (plR k m) (true, 0) i false [] else if hitA ⟨3, 0, k⟩ (i : Int) false [] then (true, begA ⟨5, m, 0⟩ i false) else (false, plS lf i) := rfl
  rw [h0, if_neg (show ¬ (((3 : Int) = 1 ∧ (0 : Int) = 0) ∧ (i : Int) = 1) by omega), h1]
  by_cases hl : 0 < lf
  · have e1 : plS lf i = (true, (i : Int) - 1 + lf) := if_pos hl
    have e2 : plN k m lf i = lf - 1 := if_pos hl
    rw [e1, e2, if_pos rfl]
    have h2 : goA (plR k m) (true, (i : Int) - 1 + lf) i false [] = if (5 : Int) = 1 ∧ (i : Int) - 1 + lf < i then (hitA ⟨3, 0, k⟩ i false [], false, 0) else if decide ((i : Int) - 1 + lf ≤ i) = true then (true, false, 0) else (true, true, (i : Int) - 1 + lf) := rfl
    rw [h2, if_neg (by omega), show decide (0 < lf ∨ i % k = 0) = true by simp [hl]]
    by_cases h3 : lf = 1
    · subst h3
      rw [if_pos (by simp)]
      rfl
    · rw [if_neg (by simp; omega)]
      have e3 : plS (lf - 1) (i + 1) = (true, ((i + 1 : Nat) : Int) - 1 + ((lf - 1 : Nat) : Int)) := if_pos (by omega)
      rw [e3]
      congr 2
      omega
  · obtain rfl : lf = 0 := by omega
    have e1 : plS 0 i = (false, 0) := rfl
    rw [e1, if_neg (by simp)]
    by_cases h2 : i % k = 0
    · have e2 : plN k m 0 i = m := by simp [plN, h2]
      rw [if_pos (by simpa using h2), e2, show decide (0 < 0 ∨ i % k = 0) = true by simp [h2]]
      have h3 : begA ⟨5, m, 0⟩ (i : Int) false = opn (decide ((0 : Int) < m)) (i + m) := rfl
      rw [h3]
      by_cases hm : 0 < m
      · have e3 : plS m (i + 1) = (true, ((i + 1 : Nat) : Int) - 1 + m) := if_pos hm
        rw [e3, show decide ((0 : Int) < m) = true by simp; omega]
        show (true, true, (i : Int) + m) = _
        congr 2
        omega
      · have e3 : plS m (i + 1) = (false, 0) := if_neg hm
        rw [e3, show decide ((0 : Int) < m) = false by simp; omega]; rfl
    · have e2 : plN k m 0 i = 0 := by simp [plN, h2]
      rw [if_neg (by simpa using h2), e2, show decide (0 < 0 ∨ i % k = 0) = false by simp [h2]]
      rfl

set_option maxRecDepth 100000 in
set_option maxHeartbeats 8000000 in
theorem plusW (f g n : Nat) (hf : f < 256) (hg : g < 256) (hn : n < 256) (w : World) (hfit : Fit6 w) :
    Calls Tryd.prog 8 #[.int .u8 f, .int .u8 g, .int .u8 n] w fun e w' => e = .returned (.bool true) ∧ Below w.heap.size w w' := by
  obtain ⟨q, hq⟩ : ∃ q, q = f % 9 := ⟨_, rfl⟩
  obtain ⟨m, hm⟩ : ∃ q, q = g % 9 := ⟨_, rfl⟩
  obtain ⟨a, ha⟩ : ∃ a, a = 1 + q := ⟨_, rfl⟩
  have e1 : IntKind.i64.wrap (1 + (q : Int)) = (a : Int) := by simp [IntKind.wrap, IntKind.signed, IntKind.bits]; omega
  have e2 : IntKind.i64.wrap (f : Int) = (f : Int) := by simp [IntKind.wrap, IntKind.signed, IntKind.bits]; omega
  have e2g : IntKind.i64.wrap (g : Int) = (g : Int) := by simp [IntKind.wrap, IntKind.signed, IntKind.bits]; omega
  have e3 : (f : Int) % 9 = (q : Int) := by omega
  have e3' : (f : Int).tmod 9 = (q : Int) := by rw [Int.tmod_eq_emod_of_nonneg (by omega)]; exact e3
  have e3w : IntKind.i64.wrap (q : Int) = (q : Int) := by simp [IntKind.wrap, IntKind.signed, IntKind.bits]; omega
  have e6 : (g : Int) % 9 = (m : Int) := by omega
  have e6' : (g : Int).tmod 9 = (m : Int) := by rw [Int.tmod_eq_emod_of_nonneg (by omega)]; exact e6
  have e6w : IntKind.i64.wrap (m : Int) = (m : Int) := by simp [IntKind.wrap, IntKind.signed, IntKind.bits]; omega
  have e4 : IntKind.i64.wrap (n : Int) = (n : Int) := by simp [IntKind.wrap, IntKind.signed, IntKind.bits]; omega
  have e5 : IntKind.i64.wrap (a : Int) = (a : Int) := by simp [IntKind.wrap, IntKind.signed, IntKind.bits]; omega
  have ha1 : 1 ≤ a := by omega
  have ha2 : a ≤ 9 := by omega
  have hm9 : m ≤ 8 := by omega
  have a0 : ((a : Int) == 0) = false := by rw [beq_eq_false_iff_ne]; omega
  have a0' : ¬ (a : Int) = 0 := by omega
  clear ha hq hm
  have HF := Lib.hid hfit
  have HN := Lib.hid (new72 w (.int .i64 3) (.int .i64 0) (.int .i64 a) (.int .i64 5) (.int .i64 m) (.int .i64 0) (.bool false) (.bool false) (.int .i64 0))
  have HB0 := Lib.hid (Below.al2 w (.cells #[.int .i64 3, .int .i64 0, .int .i64 a, .int .i64 5, .int .i64 m, .int .i64 0, .bool false] 29) (.cells #[.bool false, .int .i64 0] 44))
  clear hfit
  go_enter Tryd.func8, Tryd.ntmps8
  go_wp2_with fail
  go_loopw [11, 12] (fun l i wr => ∃ k lf : Nat, 1 ≤ k ∧ k ≤ n + 1 ∧ i = .int .i64 k ∧ l = .int .i64 lf ∧ lf ≤ 8 ∧ Seven wr w.heap.size 29 (.int .i64 3) (.int .i64 0) (.int .i64 a) (.int .i64 5) (.int .i64 m) (.int .i64 0) (.bool false) ∧ Two wr (w.heap.size + 1) 44 (.bool (plS lf k).1) (.int .i64 (plS lf k).2) ∧ Below w.heap.size w wr) (fun _ i _ => n + 1 - (RowKit.intOf i).toNat)
  case atStart =>
    exact ⟨1, 0, by omega, by omega, rfl, rfl, by omega, HN.out.1, HN.out.2, HB0.out⟩
  case round =>
    obtain ⟨k, lf, hk1, hk6, rfl, rfl, hlf, h7, h2, hB⟩ := hrel
    by_cases hlt : k ≤ n
    · have t0 : (k : Int) ≤ (n : Int) := by omega
      have hstep := pl_step a m lf k (by omega) hk1
      have A1 := fun w => Ask_c (plR a m) (plS lf k) k false none 0 0 [] (plR_nums a m (by omega) (by omega)) (by omega) (by omega) w (Bls.none_ w)
      rw [hstep, show rgv (plR a m) = .agg #[.int .i64 3, .int .i64 0, .int .i64 a, .int .i64 5, .int .i64 m, .int .i64 0, .bool false] from rfl, show (plR a m).not = false from rfl] at A1
      clear hstep
      obtain ⟨lf', hlf'⟩ : ∃ x, plN a m lf k = x := ⟨_, rfl⟩
      obtain ⟨⟨x1, x2⟩, hx⟩ : ∃ x, plS lf k = x := ⟨_, rfl⟩
      rw [hlf'] at A1
      obtain ⟨⟨y1, y2⟩, hy⟩ : ∃ x, plS lf' (k + 1) = x := ⟨_, rfl⟩
      obtain ⟨b, hb⟩ : ∃ b, decide (0 < lf ∨ k % a = 0) = b := ⟨_, rfl⟩
      rw [hx, hy, hb] at A1
      rw [hx] at h2
      obtain ⟨z, hz⟩ : ∃ z, z = k % a := ⟨_, rfl⟩
      have z1 : (k : Int) % (a : Int) = (z : Int) := by omega
      have z2 : (k : Int).tmod (a : Int) = (z : Int) := by rw [Int.tmod_eq_emod_of_nonneg (by omega)]; exact z1
      have z3 : IntKind.i64.wrap (z : Int) = (z : Int) := by
        have := Nat.mod_lt k (show 0 < a by omega)
        simp [IntKind.wrap, IntKind.signed, IntKind.bits]; omega
      rw [← hz] at hb
      have hn2 : plN a m lf k = if 0 < lf then lf - 1 else if z = 0 then m else 0 := by rw [hz]; rfl
      rw [hn2] at hlf'
      have HY := Lib.hid hy
      have HL := Lib.hid hlf'
      have HBB := Lib.hid hb
      clear hx hy hb hz hlf' hn2
      unfold stv lnv asv stv at A1
      rw [show ∀ b : Bool, (b != false) = b from fun b => by cases b <;> rfl] at A1
      simp only at A1 h2
      have HA := Lib.hid A1
      have H7 := Lib.hid h7
      have H2 := Lib.hid h2
      have HB := Lib.hid hB
      have q0 := h7.c0
      have q1 := h7.c1
      have q2 := h7.c2
      have q3 := h7.c3
      have q4 := h7.c4
      have q5 := h7.c5
      have q6 := h7.c6
      have p0 := h2.c0
      have p1 := h2.c1
      have hltr : w.heap.size + 1 < wr.heap.size := h2.lt
      clear A1 h7 h2 hB
      go_wp2_with fail
      refine (HA.out _).mono ?_
      rintro e w2 ⟨rfl, hB⟩
      have H7' := Lib.hid (H7.out.beside hB)
      have H2' := Lib.hid (H2.out.beside hB)
      have HB' := Lib.hid (HB.out.trans (hB.mono HB.out.size))
      have hlt2 : w.heap.size + 1 < w2.heap.size := H2'.out.lt
      have HT := Lib.hid (H2'.out.alloc (.cells #[.bool y1, .int .i64 y2] 44))
      have c0 := HT.out.c0
      have c1 := HT.out.c1
      have f0 := HT.out.fz 0
      have f1 := HT.out.fz 1
      have d0 := H2'.out.c0
      have d1 := H2'.out.c1
      have g0 := H2'.out.fz 0
      have g1 := H2'.out.fz 1
      clear hB q0 q1 q2 q3 q4 q5 q6 p0 p1
      have HR := Lib.hid (And.intro (((H7'.out.other (p := ⟨w.heap.size + 1, 0, none⟩) (by simp) (.bool y1)).other (p := ⟨w.heap.size + 1, 1, none⟩) (by simp) (.int .i64 y2)).alloc (.cells #[.bool y1, .int .i64 y2] 44))
        (And.intro ((H2'.out.s (.bool y1) (.int .i64 y2)).alloc (.cells #[.bool y1, .int .i64 y2] 44)) (Below.set2 HB'.out (b := w.heap.size + 1) (by omega) (.bool y1) (.int .i64 y2))))
      by_cases u1 : 0 < lf
      · have r1 : (0 : Int) < (lf : Int) := by omega
        obtain rfl : b = true := by rw [← HBB.out]; simp [u1]
        obtain rfl : lf' = lf - 1 := by rw [← HL.out, if_pos u1]
        have w5 : IntKind.i64.wrap ((lf : Int) - 1) = (((lf - 1 : Nat)) : Int) := by simp [IntKind.wrap, IntKind.signed, IntKind.bits]; omega
        go_wp2
        go_roundw
        case rel =>
          refine ⟨k + 1, lf - 1, by omega, by omega, by simp, by simp, by omega, HR.out.1, ?_, HR.out.2.2.alloc HR.out.2.2.size _⟩
          rw [HY.out]
          exact HR.out.2.1
        case measure => simp [RowKit.intOf]; omega
      · have r1 : ¬ (0 : Int) < (lf : Int) := by omega
        obtain rfl : lf = 0 := by omega
        by_cases u2 : z = 0
        · subst u2
          obtain rfl : b = true := by rw [← HBB.out]; simp
          obtain rfl : lf' = m := by rw [← HL.out]; simp
          go_wp2
          go_roundw
          case rel =>
            refine ⟨k + 1, lf', by omega, by omega, by simp, by simp, by omega, HR.out.1, ?_, HR.out.2.2.alloc HR.out.2.2.size _⟩
            rw [HY.out]
            exact HR.out.2.1
          case measure => simp [RowKit.intOf]; omega
        · have r2 : ((z : Int) == 0) = false := by rw [beq_eq_false_iff_ne]; omega
          obtain rfl : b = false := by rw [← HBB.out]; simp [u2]
          obtain rfl : lf' = 0 := by rw [← HL.out]; simp [u2]
          clear u2
          go_wp2
          go_roundw
          case rel =>
            refine ⟨k + 1, 0, by omega, by omega, by simp, by simp, by omega, HR.out.1, ?_, HR.out.2.2.alloc HR.out.2.2.size _⟩
            rw [HY.out]
            exact HR.out.2.1
          case measure => simp [RowKit.intOf]; omega
    · have t0 : ¬ (k : Int) ≤ (n : Int) := by omega
      have HS := Lib.hid (shown_c wr (HF.out.below hB))
      have HB := Lib.hid hB
      clear hB h7 h2
      go_wp2_with fail
      refine HS.out.mono ?_
      rintro e w2 ⟨rfl, hB2⟩
      have HB2 := Lib.hid (HB.out.trans (hB2.mono HB.out.size))
      clear hB2
      go_wp2
      go_ret
      exact ⟨rfl, HB2.out⟩

end Go.Proofs.YtaamhjjdhebjfaaDoor
