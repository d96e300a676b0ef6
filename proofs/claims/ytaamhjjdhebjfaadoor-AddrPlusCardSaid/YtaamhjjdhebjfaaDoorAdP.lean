/- AddrSpans, AddrLast: the walks. -/
import Derived.Test.YtaamhjjdhebjfaaDoorAdO
namespace Go.Proofs.YtaamhjjdhebjfaaDoor
open Go.RowKit Go.Lib
set_option linter.unusedVariables false
set_option linter.unusedSimpArgs false

/-- Two blocks, the range's and the state's behind it. -/
theorem new72 (w : World) (v0 v1 v2 v3 v4 v5 v6 u0 u1 : Value) : Seven ((w.alloc (.cells #[v0, v1, v2, v3, v4, v5, v6] 29)).alloc (.cells #[u0, u1] 44)) w.heap.size 29 v0 v1 v2 v3 v4 v5 v6
    ∧ Two ((w.alloc (.cells #[v0, v1, v2, v3, v4, v5, v6] 29)).alloc (.cells #[u0, u1] 44)) (w.heap.size + 1) 44 u0 u1 := by
  refine ⟨(Seven.new w _ _ _ _ _ _ _ _).alloc _, ?_⟩
  have h := Two.new (w.alloc (.cells #[v0, v1, v2, v3, v4, v5, v6] 29)) 44 u0 u1
  rw [World.size_alloc] at h
  exact h

def spR (a t : Nat) : Rg := ⟨⟨1, a, 0⟩, ⟨1, t, 0⟩, false⟩
def spS (a t k : Nat) : Bool × Int := if a < k ∧ k ≤ t then (true, (t : Int)) else (false, 0)
theorem spR_nums (a t : Nat) (ht : t ≤ 999999999) : (spR a t).Nums := ⟨fun h => absurd h (by simp [spR]), by simp [spR], by simp [spR]; omega⟩
theorem sp_step (a t k : Nat) (L : Bool) (ha : 1 ≤ a) : askA (spR a t) (spS a t k) (k : Int) L [] = (decide (k = a ∨ (a < k ∧ k ≤ t)), spS a t (k + 1)) := by
  have h1 : hitA ⟨1, a, 0⟩ (k : Int) L [] = decide (k = a) := by simp [hitA]; omega
  have h0 : askA (spR a t) (spS a t k) (k : Int) L [] = if (spS a t k).1 then goA (spR a t) (spS a t k) k L [] else if ((1 : Int) = 1 ∧ (a : Int) = 0) ∧ (k : Int) = 1 then goA (spR a t) (true, 0) k L [] else if hitA ⟨1, a, 0⟩ (k : Int) L [] then (true, begA ⟨1, t, 0⟩ k L) else (false, spS a t k) := rfl
  rw [h0, h1, if_neg (show ¬ (((1 : Int) = 1 ∧ (a : Int) = 0) ∧ (k : Int) = 1) by omega)]
  by_cases hk : a < k ∧ k ≤ t
  · have e1 : spS a t k = (true, (t : Int)) := if_pos hk
    rw [e1, if_pos rfl]
    have h2 : goA (spR a t) (true, (t : Int)) k L [] = if (1 : Int) = 1 ∧ (t : Int) < k then (hitA ⟨1, a, 0⟩ k L [], false, 0) else if endA ⟨1, t, 0⟩ (true, (t : Int)) k L [] then (true, false, 0) else (true, true, (t : Int)) := rfl
    rw [h2, if_neg (by omega)]
    have h3 : endA ⟨1, t, 0⟩ (true, (t : Int)) k L [] = decide ((t : Int) ≤ k) := by simp [endA]
    rw [h3, show decide (k = a ∨ (a < k ∧ k ≤ t)) = true by simp [hk]]
    by_cases hkt : k = t
    · subst hkt
      rw [if_pos (by simp)]
      have : spS a k (k + 1) = (false, 0) := if_neg (by omega)
      rw [this]
    · rw [if_neg (by simp; omega)]
      have : spS a t (k + 1) = (true, (t : Int)) := if_pos (by omega)
      rw [this]
  · have e1 : spS a t k = (false, 0) := if_neg hk
    rw [e1, if_neg (by simp)]
    by_cases hka : k = a
    · subst hka
      rw [if_pos (by simp)]
      have h2 : begA ⟨1, t, 0⟩ (k : Int) L = opn (decide ((k : Int) < t)) t := rfl
      rw [h2, show decide (k = k ∨ (k < k ∧ k ≤ t)) = true by simp]
      by_cases hkt : k < t
      · have : spS k t (k + 1) = (true, (t : Int)) := if_pos (by omega)
        rw [this, show decide ((k : Int) < t) = true by simp; omega]; rfl
      · have : spS k t (k + 1) = (false, 0) := if_neg (by omega)
        rw [this, show decide ((k : Int) < t) = false by simp; omega]; rfl
    · rw [if_neg (by simpa using hka)]
      have : spS a t (k + 1) = (false, 0) := if_neg (by omega)
      rw [this, show decide (k = a ∨ (a < k ∧ k ≤ t)) = false by simp; omega]

set_option maxRecDepth 100000 in
set_option maxHeartbeats 8000000 in
theorem spansW (f t n : Nat) (hf : f < 256) (ht : t < 256) (hn : n < 256) (w : World) (hfit : Fit6 w) :
    Calls Tryd.prog 6 #[.int .u8 f, .int .u8 t, .int .u8 n] w fun e w' => e = .returned (.bool true) ∧ Below w.heap.size w w' := by
  obtain ⟨a, ha⟩ : ∃ a, a = 1 + f := ⟨_, rfl⟩
  have e1 : IntKind.i64.wrap (1 + (f : Int)) = (a : Int) := by simp [IntKind.wrap, IntKind.signed, IntKind.bits]; omega
  have e2 : IntKind.i64.wrap (f : Int) = (f : Int) := by simp [IntKind.wrap, IntKind.signed, IntKind.bits]; omega
  have e3 : IntKind.i64.wrap (t : Int) = (t : Int) := by simp [IntKind.wrap, IntKind.signed, IntKind.bits]; omega
  have e4 : IntKind.i64.wrap (n : Int) = (n : Int) := by simp [IntKind.wrap, IntKind.signed, IntKind.bits]; omega
  have e5 : IntKind.i64.wrap (a : Int) = (a : Int) := by simp [IntKind.wrap, IntKind.signed, IntKind.bits]; omega
  have ha1 : 1 ≤ a := by omega
  have ha2 : a ≤ 256 := by omega
  clear ha
  have HF := Lib.hid hfit
  have HN := Lib.hid (new72 w (.int .i64 1) (.int .i64 a) (.int .i64 0) (.int .i64 1) (.int .i64 t) (.int .i64 0) (.bool false) (.bool false) (.int .i64 0))
  have HB0 := Lib.hid (Below.al2 w (.cells #[.int .i64 1, .int .i64 a, .int .i64 0, .int .i64 1, .int .i64 t, .int .i64 0, .bool false] 29) (.cells #[.bool false, .int .i64 0] 44))
  clear hfit
  go_enter Tryd.func6, Tryd.ntmps6
  go_wp2_with fail
  go_loopw [10] (fun i wr => ∃ k : Nat, 1 ≤ k ∧ k ≤ n + 1 ∧ i = .int .i64 k ∧ Seven wr w.heap.size 29 (.int .i64 1) (.int .i64 a) (.int .i64 0) (.int .i64 1) (.int .i64 t) (.int .i64 0) (.bool false) ∧ Two wr (w.heap.size + 1) 44 (.bool (spS a t k).1) (.int .i64 (spS a t k).2) ∧ Below w.heap.size w wr) (fun i _ => n + 1 - (RowKit.intOf i).toNat)
  case atStart =>
    have e0 : spS a t 1 = (false, 0) := if_neg (by omega)
    exact ⟨1, by omega, by omega, rfl, HN.out.1, by rw [e0]; exact HN.out.2, HB0.out⟩
  case round =>
    obtain ⟨k, hk1, hk6, rfl, h7, h2, hB⟩ := hrel
    by_cases hlt : k ≤ n
    · have t0 : (k : Int) ≤ (n : Int) := by omega
      obtain ⟨L, hL⟩ : ∃ L, ((k : Int) == (n : Int)) = L := ⟨_, rfl⟩
      have hstep := sp_step a t k L (by omega)
      have A1 := fun w => Ask_c (spR a t) (spS a t k) k L none 0 0 [] (spR_nums a t (by omega)) (by omega) (by omega) w (Bls.none_ w)
      rw [hstep, show rgv (spR a t) = .agg #[.int .i64 1, .int .i64 a, .int .i64 0, .int .i64 1, .int .i64 t, .int .i64 0, .bool false] from rfl, show (spR a t).not = false from rfl] at A1
      clear hstep
      obtain ⟨⟨x1, x2⟩, hx⟩ : ∃ x, spS a t k = x := ⟨_, rfl⟩
      obtain ⟨⟨y1, y2⟩, hy⟩ : ∃ x, spS a t (k + 1) = x := ⟨_, rfl⟩
      obtain ⟨b, hb⟩ : ∃ b, decide (k = a ∨ (a < k ∧ k ≤ t)) = b := ⟨_, rfl⟩
      rw [hx, hy, hb] at A1
      rw [hx] at h2
      have HY := Lib.hid hy
      have HBB := Lib.hid hb
      clear hx hy hb
      unfold stv lnv asv stv at A1
      rw [show ∀ b : Bool, (b != false) = b from fun b => by cases b <;> rfl] at A1
      simp only at A1 h2
      have HA := Lib.hid A1
      have H7 := Lib.hid h7
      have H2 := Lib.hid h2
      have HB := Lib.hid hB
      have q0 := h7.c0
      have q1 := h7.c1
      have q2 := h7.c2
      have q3 := h7.c3
      have q4 := h7.c4
      have q5 := h7.c5
      have q6 := h7.c6
      have p0 := h2.c0
      have p1 := h2.c1
      have hltr : w.heap.size + 1 < wr.heap.size := h2.lt
      clear A1 h7 h2 hB
      go_wp2_with fail
      refine (HA.out _).mono ?_
      rintro e w2 ⟨rfl, hB⟩
      have H7' := Lib.hid (H7.out.beside hB)
      have H2' := Lib.hid (H2.out.beside hB)
      have HB' := Lib.hid (HB.out.trans (hB.mono HB.out.size))
      have hlt2 : w.heap.size + 1 < w2.heap.size := H2'.out.lt
      have HT := Lib.hid (H2'.out.alloc (.cells #[.bool y1, .int .i64 y2] 44))
      have c0 := HT.out.c0
      have c1 := HT.out.c1
      have f0 := HT.out.fz 0
      have f1 := HT.out.fz 1
      have d0 := H2'.out.c0
      have d1 := H2'.out.c1
      have g0 := H2'.out.fz 0
      have g1 := H2'.out.fz 1
      clear hB q0 q1 q2 q3 q4 q5 q6 p0 p1
      have HR := Lib.hid (And.intro (((H7'.out.other (p := ⟨w.heap.size + 1, 0, none⟩) (by simp) (.bool y1)).other (p := ⟨w.heap.size + 1, 1, none⟩) (by simp) (.int .i64 y2)).alloc (.cells #[.bool y1, .int .i64 y2] 44))
        (And.intro ((H2'.out.s (.bool y1) (.int .i64 y2)).alloc (.cells #[.bool y1, .int .i64 y2] 44)) (Below.set2 HB'.out (b := w.heap.size + 1) (by omega) (.bool y1) (.int .i64 y2))))
      by_cases u1 : k = a
      · have s1 : ((k : Int) == (a : Int)) = true := by rw [beq_iff_eq]; omega
        obtain rfl : b = true := by rw [← HBB.out]; simp [u1]
        clear u1
        go_wp2
        go_roundw
        case rel =>
          refine ⟨k + 1, by omega, by omega, by simp, HR.out.1, ?_, HR.out.2.2.alloc HR.out.2.2.size _⟩
          rw [HY.out]
          exact HR.out.2.1
        case measure => simp [RowKit.intOf]; omega
      · have s1 : ((k : Int) == (a : Int)) = false := by rw [beq_eq_false_iff_ne]; omega
        by_cases u2 : a < k
        · have s2 : decide ((a : Int) < (k : Int)) = true := by simp; omega
          have r2 : (a : Int) < (k : Int) := by omega
          by_cases u3 : k ≤ t
          · have s3 : decide ((k : Int) ≤ (t : Int)) = true := by simp; omega
            have r3 : (k : Int) ≤ (t : Int) := by omega
            obtain rfl : b = true := by rw [← HBB.out]; simp [u1, u2, u3]
            clear u1 u2 u3
            go_wp2
            go_roundw
            case rel =>
              refine ⟨k + 1, by omega, by omega, by simp, HR.out.1, ?_, HR.out.2.2.alloc HR.out.2.2.size _⟩
              rw [HY.out]
              exact HR.out.2.1
            case measure => simp [RowKit.intOf]; omega
          · have s3 : decide ((k : Int) ≤ (t : Int)) = false := by simp; omega
            have r3 : ¬ (k : Int) ≤ (t : Int) := by omega
            obtain rfl : b = false := by rw [← HBB.out]; simp [u1, u2, u3]
            clear u1 u2 u3
            go_wp2
            go_roundw
            case rel =>
              refine ⟨k + 1, by omega, by omega, by simp, HR.out.1, ?_, HR.out.2.2.alloc HR.out.2.2.size _⟩
              rw [HY.out]
              exact HR.out.2.1
            case measure => simp [RowKit.intOf]; omega
        · have s2 : decide ((a : Int) < (k : Int)) = false := by simp; omega
          have r2 : ¬ (a : Int) < (k : Int) := by omega
          obtain rfl : b = false := by rw [← HBB.out]; simp [u1, u2]
          clear u1 u2
          go_wp2
          go_roundw
          case rel =>
            refine ⟨k + 1, by omega, by omega, by simp, HR.out.1, ?_, HR.out.2.2.alloc HR.out.2.2.size _⟩
            rw [HY.out]
            exact HR.out.2.1
          case measure => simp [RowKit.intOf]; omega
    · have t0 : ¬ (k : Int) ≤ (n : Int) := by omega
      have HS := Lib.hid (shown_c wr (HF.out.below hB))
      have HB := Lib.hid hB
      clear hB h7 h2
      go_wp2_with fail
      refine HS.out.mono ?_
      rintro e w2 ⟨rfl, hB2⟩
      have HB2 := Lib.hid (HB.out.trans (hB2.mono HB.out.size))
      clear hB2
      go_wp2
      go_ret
      exact ⟨rfl, HB2.out⟩

end Go.Proofs.YtaamhjjdhebjfaaDoor
