/- '==' of ranges; AddrBack: the walk. -/
import Derived.Test.YtaamhjjdhebjfaaGreatDoorAdO
import Derived.DeepKeys
namespace Go.Proofs.YtaamhjjdhebjfaaGreatDoor
open Go.RowKit Go.Lib
set_option linter.unusedVariables false
set_option linter.unusedSimpArgs false

theorem wf_i64 {x : Int} (h : -9223372036854775808 ≤ x ∧ x ≤ 9223372036854775807) : (Lit.int .i64 x).wf = true := by
  simp [Lit.wf, IntKind.min, IntKind.max, IntKind.signed, IntKind.bits]; omega
theorem cellsI1 : Tryz.prog.cellsOf 3 = 1 := by kernel_rfl
theorem cellsB1 : Tryz.prog.cellsOf 4 = 1 := by kernel_rfl

theorem keyRp : Tryz.prog.keyTypeAt 3 25 = true := by kernel_rfl
theorem cellsRp : Tryz.prog.cellsOf 25 = 7 := by kernel_rfl
theorem cellsRpA : Tryz.prog.cellsOf 23 = 3 := by kernel_rfl
set_option maxRecDepth 100000 in
theorem eqRp (r : Rg) (h : mayR r = true) (w : World) : (Op.equalIn 10000 25 (.agg #[.int .i64 r.a.k, .int .i64 r.a.n, .int .i64 r.a.m, .int .i64 r.b.k, .int .i64 r.b.n, .int .i64 r.b.m, .bool r.not]) (.agg #[.int .i64 r.a.k, .int .i64 r.a.n, .int .i64 r.a.m, .int .i64 r.b.k, .int .i64 r.b.n, .int .i64 r.b.m, .bool r.not])).run Tryz.prog w = .ok true w := by
  obtain ⟨ha, hb, _⟩ := mayR_iff.1 h
  have h1 := isAd.nums ha
  have h2 := isAd.nums hb
  have w1 := wf_i64 (x := r.a.k) (by have := h1.k0; have := h1.k6; omega)
  have w2 := wf_i64 (x := r.a.n) (by have := h1.n0; have := h1.n9; omega)
  have w3 := wf_i64 (x := r.a.m) (by have := h1.m0; have := h1.m9; omega)
  have w4 := wf_i64 (x := r.b.k) (by have := h2.k0; have := h2.k6; omega)
  have w5 := wf_i64 (x := r.b.n) (by have := h2.n0; have := h2.n9; omega)
  have w6 := wf_i64 (x := r.b.m) (by have := h2.m0; have := h2.m9; omega)
  have hk : Tryz.prog.keyLits 4 25 [.int .i64 r.a.k, .int .i64 r.a.n, .int .i64 r.a.m, .int .i64 r.b.k, .int .i64 r.b.n, .int .i64 r.b.m, .bool r.not] = some [.int .i64 r.a.k, .int .i64 r.a.n, .int .i64 r.a.m, .int .i64 r.b.k, .int .i64 r.b.n, .int .i64 r.b.m, .bool r.not] := by
    simp [Program.keyLits, Tryz.underlying25, Tryz.underlying23, Tryz.underlying3, Tryz.underlying4, cellsRp, cellsRpA, cellsI1, cellsB1, w1, w2, w3, w4, w5, w6]
    repeat (rw [if_pos (by intro i hi; rcases (by omega : i = 0 ∨ i = 1 ∨ i = 2) with rfl | rfl | rfl <;> simp)]; try simp)
  have hf : (Value.agg #[.int .i64 r.a.k, .int .i64 r.a.n, .int .i64 r.a.m, .int .i64 r.b.k, .int .i64 r.b.n, .int .i64 r.b.m, .bool r.not]).formed Tryz.prog 25 = true := by
    simp [Value.formed, Tryz.underlying25, cellsRp]
  obtain ⟨x, hr, hiff⟩ := run_equalIn_deep 9997 3 _ keyRp w 4 4 _ _ _ _ hf hf hk hk
  rw [hr, hiff.2 rfl]

theorem textR_len {r : Rg} (h : mayR r = true) : (textR r).length ≤ 60 := by
  obtain ⟨ha, hb, _⟩ := mayR_iff.1 h
  have h1 := textA_len ha
  have h2 := textA_len hb
  unfold textR textB
  simp only [List.length_append]
  split <;> split <;> simp only [List.length_cons, List.length_nil] <;> omega
theorem par_nil : parR [] = (zeroR, 0) := by
  have h : mayR zeroR = true := by decide
  have := par_text h
  rwa [show textR zeroR = [] from rfl] at this

end Go.Proofs.YtaamhjjdhebjfaaGreatDoor
