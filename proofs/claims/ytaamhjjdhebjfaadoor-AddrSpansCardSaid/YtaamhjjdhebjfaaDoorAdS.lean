/- '==' of ranges; AddrBack: the walk. -/
import Derived.Test.YtaamhjjdhebjfaaDoorAdO
import Derived.DeepKeys
namespace Go.Proofs.YtaamhjjdhebjfaaDoor
open Go.RowKit Go.Lib
set_option linter.unusedVariables false
set_option linter.unusedSimpArgs false

theorem wf_i64 {x : Int} (h : -9223372036854775808 ≤ x ∧ x ≤ 9223372036854775807) : (Lit.int .i64 x).wf = true := by
  simp [Lit.wf, IntKind.min, IntKind.max, IntKind.signed, IntKind.bits]; omega
theorem cellsI1 : Tryd.prog.cellsOf 3 = 1 := by kernel_rfl
theorem cellsB1 : Tryd.prog.cellsOf 4 = 1 := by kernel_rfl

theorem keyRp : Tryd.prog.keyTypeAt 3 29 = true := by kernel_rfl
theorem cellsRp : Tryd.prog.cellsOf 29 = 7 := by kernel_rfl
theorem cellsRpA : Tryd.prog.cellsOf 23 = 3 := by kernel_rfl
set_option maxRecDepth 100000 in
theorem eqRp (r : Rg) (h : mayR r = true) (w : World) : (Op.equalIn 10000 29 (.agg #[.int .i64 r.a.k, .int .i64 r.a.n, .int .i64 r.a.m, .int .i64 r.b.k, .int .i64 r.b.n, .int .i64 r.b.m, .bool r.not]) (.agg #[.int .i64 r.a.k, .int .i64 r.a.n, .int .i64 r.a.m, .int .i64 r.b.k, .int .i64 r.b.n, .int .i64 r.b.m, .bool r.not])).run Tryd.prog w = .ok true w := by
  obtain ⟨ha, hb, _⟩ := mayR_iff.1 h
  have h1 := isAd.nums ha
  have h2 := isAd.nums hb
  have w1 := wf_i64 (x := r.a.k) (by have := h1.k0; have := h1.k6; omega)
  have w2 := wf_i64 (x := r.a.n) (by have := h1.n0; have := h1.n9; omega)
  have w3 := wf_i64 (x := r.a.m) (by have := h1.m0; have := h1.m9; omega)
  have w4 := wf_i64 (x := r.b.k) (by have := h2.k0; have := h2.k6; omega)
  have w5 := wf_i64 (x := r.b.n) (by have := h2.n0; have := h2.n9; omega)
  have w6 := wf_i64 (x := r.b.m) (by have := h2.m0; have := h2.m9; omega)
  have hk : Tryd.prog.keyLits 4 29 [.int .i64 r.a.k, .int .i64 r.a.n, .int .i64 r.a.m, .int .i64 r.b.k, .int .i64 r.b.n, .int .i64 r.b.m, .bool r.not] = some [.int .i64 r.a.k, .int .i64 r.a.n, .int .i64 r.a.m, .int .i64 r.b.k, .int .i64 r.b.n, .int .i64 r.b.m, .bool r.not] := by
    simp [Program.keyLits, Tryd.underlying29, Tryd.underlying23, Tryd.underlying3, Tryd.underlying4, cellsRp, cellsRpA, cellsI1, cellsB1, w1, w2, w3, w4, w5, w6]
    repeat (rw [if_pos (by intro i hi; rcases (by omega : i = 0 ∨ i = 1 ∨ i = 2) with rfl | rfl | rfl <;> simp)]; try simp)
  have hf : (Value.agg #[.int .i64 r.a.k, .int .i64 r.a.n, .int .i64 r.a.m, .int .i64 r.b.k, .int .i64 r.b.n, .int .i64 r.b.m, .bool r.not]).formed Tryd.prog 29 = true := by
    simp [Value.formed, Tryd.underlying29, cellsRp]
  obtain ⟨x, hr, hiff⟩ := run_equalIn_deep 9997 3 _ keyRp w 4 4 _ _ _ _ hf hf hk hk
  rw [hr, hiff.2 rfl]

theorem textR_len {r : Rg} (h : mayR r = true) : (textR r).length ≤ 60 := by
  obtain ⟨ha, hb, _⟩ := mayR_iff.1 h
  have h1 := textA_len ha
  have h2 := textA_len hb
  unfold textR textB
  simp only [List.length_append]
  split <;> split <;> simp only [List.length_cons, List.length_nil] <;> omega
theorem par_nil : parR [] = (zeroR, 0) := by
  have h : mayR zeroR = true := by decide
  have := par_text h
  rwa [show textR zeroR = [] from rfl] at this

set_option maxRecDepth 100000 in
set_option maxHeartbeats 8000000 in
theorem backW (r : Rg) (w : World) (hfit : Fit6 w) :
    Calls Tryd.prog 4 #[rgv r] w fun e w' => e = .returned (.bool true) ∧ Below w.heap.size w w' := by
  have HS := Lib.hid (fun w h => shown_c w h)
  have P1 := fun w h => print_c r w h
  unfold priV at P1
  have hB0 := (Below.refl _ w).alloc (Nat.le_refl _) (.cells #[.int .i64 r.a.k, .int .i64 r.a.n, .int .i64 r.a.m, .int .i64 r.b.k, .int .i64 r.b.n, .int .i64 r.b.m, .bool r.not] 29)
  have HF0 := hfit.below hB0
  have h70 := Seven.new w 29 (.int .i64 r.a.k) (.int .i64 r.a.n) (.int .i64 r.a.m) (.int .i64 r.b.k) (.int .i64 r.b.n) (.int .i64 r.b.m) (.bool r.not)
  by_cases hm : mayR r = true
  · rw [if_pos hm] at P1
    have Q1 := fun w h => parse_c ⟨(textR r).toArray⟩ (by rw [ba_size]; have := textR_len hm; omega) w h
    rw [show (⟨(textR r).toArray⟩ : ByteArray).data.toList = textR r from rfl, par_text hm] at Q1
    have E1 := fun w => eqRp r hm w
    generalize (⟨(textR r).toArray⟩ : ByteArray) = TX at P1 Q1
    unfold parV at Q1
    unfold rgv at P1 Q1 ⊢
    obtain ⟨⟨ak, an, am⟩, ⟨bk, bn, bm⟩, nt⟩ := r
    simp only at P1 Q1 E1 hB0 HF0 h70 ⊢
    have HP := Lib.hid P1
    have HQ := Lib.hid Q1
    have HB := Lib.hid hB0
    have HF := Lib.hid HF0
    have H7 := Lib.hid h70
    clear P1 Q1 hB0 HF0 h70 hm hfit
    go_enter Tryd.func4, Tryd.ntmps4
    go_wp2_with fail
    refine (HP.out _ HF.out).mono ?_
    rintro e w1 ⟨rfl, hB⟩
    have HB1 := Lib.hid (HB.out.trans (hB.mono HB.out.size))
    have HF1 := Lib.hid (HF.out.below hB)
    have H71 := Lib.hid (H7.out.beside hB)
    clear hB
    go_wp2_with fail
    refine (HQ.out _ HF1.out).mono ?_
    rintro e w2 ⟨rfl, hB⟩
    have HB2 := Lib.hid (HB1.out.trans (hB.mono HB1.out.size))
    have HF2 := Lib.hid (HF1.out.below hB)
    have H72 := Lib.hid (H71.out.beside hB)
    clear hB
    have HA := Lib.hid (Seven.new w2 29 (.int .i64 ak) (.int .i64 an) (.int .i64 am) (.int .i64 bk) (.int .i64 bn) (.int .i64 bm) (.bool nt))
    have hBA := (Below.refl _ w2).alloc (Nat.le_refl _) (.cells #[.int .i64 ak, .int .i64 an, .int .i64 am, .int .i64 bk, .int .i64 bn, .int .i64 bm, .bool nt] 29)
    have HB3 := Lib.hid (HB2.out.trans (hBA.mono HB2.out.size))
    have HF3 := Lib.hid (HF2.out.below hBA)
    have H73 := Lib.hid (H72.out.beside hBA)
    clear hBA
    have q0 := H73.out.c0
    have q1 := H73.out.c1
    have q2 := H73.out.c2
    have q3 := H73.out.c3
    have q4 := H73.out.c4
    have q5 := H73.out.c5
    have q6 := H73.out.c6
    have p0 := HA.out.c0
    have p1 := HA.out.c1
    have p2 := HA.out.c2
    have p3 := HA.out.c3
    have p4 := HA.out.c4
    have p5 := HA.out.c5
    have p6 := HA.out.c6
    go_wp2_with fail
    refine (HS.out _ HF3.out).mono ?_
    rintro e w3 ⟨rfl, hB⟩
    have HB4 := Lib.hid (HB3.out.trans (hB.mono HB3.out.size))
    clear hB
    go_wp2
    go_ret
    exact ⟨rfl, HB4.out⟩
  · rw [if_neg hm] at P1
    have Q1 := fun w h => parse_c ⟨#[]⟩ (by decide) w h
    rw [show (⟨#[]⟩ : ByteArray).data.toList = [] from rfl, par_nil, show parV (zeroR, 0) = .tuple #[.agg #[.int .i64 0, .int .i64 0, .int .i64 0, .int .i64 0, .int .i64 0, .int .i64 0, .bool false], .int .i64 0] from rfl] at Q1
    have E1 := fun w => eqRp zeroR (by decide) w
    have M1 := fun w => may_c r w
    rw [show mayR r = false by simpa using hm] at M1
    unfold rgv at P1 M1 ⊢
    obtain ⟨⟨ak, an, am⟩, ⟨bk, bn, bm⟩, nt⟩ := r
    simp only at P1 Q1 hB0 HF0 h70 M1 ⊢
    have E2 : ∀ w, (Op.equalIn 10000 29 (.agg #[.int .i64 0, .int .i64 0, .int .i64 0, .int .i64 0, .int .i64 0, .int .i64 0, .bool false]) (.agg #[.int .i64 0, .int .i64 0, .int .i64 0, .int .i64 0, .int .i64 0, .int .i64 0, .bool false])).run Tryd.prog w = .ok true w := E1
    have HP := Lib.hid P1
    have HQ := Lib.hid Q1
    have HM := Lib.hid M1
    have HB := Lib.hid hB0
    have HF := Lib.hid HF0
    have H7 := Lib.hid h70
    clear P1 Q1 hB0 HF0 h70 hm hfit M1 E1
    go_enter Tryd.func4, Tryd.ntmps4
    go_wp2_with fail
    refine (HP.out _ HF.out).mono ?_
    rintro e w1 ⟨rfl, hB⟩
    have HB1 := Lib.hid (HB.out.trans (hB.mono HB.out.size))
    have HF1 := Lib.hid (HF.out.below hB)
    have H71 := Lib.hid (H7.out.beside hB)
    clear hB
    go_wp2_with fail
    refine (HQ.out _ HF1.out).mono ?_
    rintro e w2 ⟨rfl, hB⟩
    have HB2 := Lib.hid (HB1.out.trans (hB.mono HB1.out.size))
    have HF2 := Lib.hid (HF1.out.below hB)
    have H72 := Lib.hid (H71.out.beside hB)
    clear hB
    have HA := Lib.hid (Seven.new w2 29 (.int .i64 0) (.int .i64 0) (.int .i64 0) (.int .i64 0) (.int .i64 0) (.int .i64 0) (.bool false))
    have hBA := (Below.refl _ w2).alloc (Nat.le_refl _) (.cells #[.int .i64 0, .int .i64 0, .int .i64 0, .int .i64 0, .int .i64 0, .int .i64 0, .bool false] 29)
    have HB3 := Lib.hid (HB2.out.trans (hBA.mono HB2.out.size))
    have HF3 := Lib.hid (HF2.out.below hBA)
    have H73 := Lib.hid (H72.out.beside hBA)
    clear hBA
    have q0 := H73.out.c0
    have q1 := H73.out.c1
    have q2 := H73.out.c2
    have q3 := H73.out.c3
    have q4 := H73.out.c4
    have q5 := H73.out.c5
    have q6 := H73.out.c6
    go_wp2_with fail
    refine (HM.out _).mono ?_
    rintro e w3 ⟨rfl, hB⟩
    have HB4 := Lib.hid (HB3.out.trans (hB.mono HB3.out.size))
    have HF4 := Lib.hid (HF3.out.below hB)
    have HA4 := Lib.hid (HA.out.beside hB)
    clear hB q0 q1 q2 q3 q4 q5 q6
    have p0 := HA4.out.c0
    have p1 := HA4.out.c1
    have p2 := HA4.out.c2
    have p3 := HA4.out.c3
    have p4 := HA4.out.c4
    have p5 := HA4.out.c5
    have p6 := HA4.out.c6
    go_wp2_with fail
    refine (HS.out _ HF4.out).mono ?_
    rintro e w4 ⟨rfl, hB⟩
    have HB5 := Lib.hid (HB4.out.trans (hB.mono HB4.out.size))
    clear hB
    go_wp2
    go_ret
    exact ⟨rfl, HB5.out⟩

end Go.Proofs.YtaamhjjdhebjfaaDoor
