/- The contracts of Of and Range. -/
import Derived.Test.YtfkidgbjjlgjdaaDoorZSetQ
import Derived.Deep.RegionWith
namespace Go.Proofs.YtfkidgbjjlgjdaaDoor
open Go.RowKit
set_option linter.unusedVariables false
set_option linter.unusedSimpArgs false

/-- Whether i is one of the first n letters of s. -/
def inS (s : ByteArray) (n i : Nat) : Bool := (s.data.toList.take n).any fun x => x.toNat == i
theorem inS_succ (s : ByteArray) (n i : Nat) (h : n < s.size) : inS s (n + 1) i = (inS s n i || i == s[n].toNat) := by
  unfold inS
  have h' : n < s.data.toList.length := by simpa using h
  rw [List.take_add_one, List.getElem?_eq_getElem h']
  simp only [Option.toList_some, List.any_append, List.any_cons, List.any_nil, Bool.or_false]
  have e : s[n] = s.data.toList[n] := rfl
  rw [e]
  generalize s.data.toList[n].toNat = x
  have e2 : (x == i) = (i == x) := by rw [Bool.eq_iff_iff, beq_iff_eq, beq_iff_eq]; exact eq_comm
  rw [e2]

set_option maxHeartbeats 4000000 in
/-- **Of: the letters of s.** -/
theorem of_c (s : ByteArray) (hs : s.size < 9223372036854775807) (w : World) :
    Calls Tryd.prog 19 #[.string s] w fun e w' => e = .returned (sv (inS s s.size)) ∧ Below w.heap.size w w' := by
  go_enter Tryd.func19, Tryd.ntmps19
  go_wp2
  go_loopw [7] (fun i wr => ∃ k : Nat, k ≤ s.size ∧ i = .int .i64 k ∧ FourS wr w.heap.size (fun _ => false) ∧ FourS wr (w.heap.size + 1) (inS s k) ∧ Below w.heap.size w wr)
    (fun i _ => s.size - (intOf i).toNat)
  case atStart =>
    refine ⟨0, by omega, rfl, ?_, ?_, ?_⟩
    · exact FourS.zero ((Four.new w _ _ _ _ _).alloc _) (fun _ _ => rfl)
    · refine FourS.zero ?_ (fun i _ => by simp [inS])
      have := Four.new (w.alloc (.cells #[.int .u64 0, .int .u64 0, .int .u64 0, .int .u64 0] 39)) 39 (.int .u64 0) (.int .u64 0) (.int .u64 0) (.int .u64 0)
      rwa [World.size_alloc] at this
    · exact ((Below.refl _ w).alloc (Nat.le_refl _) _).alloc (by simp) _
  case round =>
    obtain ⟨k, hk, rfl, h0, h1, hB⟩ := hrel
    have h0c0 := h0.c0
    have h0c1 := h0.c1
    have h0c2 := h0.c2
    have h0c3 := h0.c3
    have h0f0 := h0.fz 0
    have h0f1 := h0.fz 1
    have h0f2 := h0.fz 2
    have h0f3 := h0.fz 3
    have h1c0 := h1.c0
    have h1c1 := h1.c1
    have h1c2 := h1.c2
    have h1c3 := h1.c3
    have h1f0 := h1.fz 0
    have h1f1 := h1.fz 1
    have h1f2 := h1.fz 2
    have h1f3 := h1.fz 3
    by_cases hlt : k < s.size
    · have hle := s[k].toNat_lt
      go_wp2_with fail
      go_region_with (go_at_call 36; refine (with_c _ _ hle _).mono ?_; rintro e w1 ⟨rfl, hB1⟩; have hB2 : Below wr.heap.size wr w1 := ((Below.refl _ wr).drew).trans hB1; have g1 := h1.below hB2 h1.lt; have g0 := h0.below hB2 h0.lt; have g1c0 := g1.c0; have g1c1 := g1.c1; have g1c2 := g1.c2; have g1c3 := g1.c3; have g1f0 := g1.fz 0; have g1f1 := g1.fz 1; have g1f2 := g1.fz 2; have g1f3 := g1.fz 3; simp only [sv])
      all_goals (
        go_wp2
        go_roundw
        case rel =>
          refine ⟨k + 1, by omega, by simp, g0.set4_other (by omega) _ _ _ _, (FourS.set g1 _).congr fun i _ => (inS_succ s k i hlt).symm, Below.set4 (hB.trans (hB2.mono hB.size)) (by omega) _ _ _ _⟩
        case measure => simp [intOf]; omega)
    · obtain rfl : k = s.size := by omega
      go_wp2
      have q := FourS.set h0 (inS s s.size)
      have qc0 := q.c0; have qc1 := q.c1; have qc2 := q.c2; have qc3 := q.c3
      refine bodyPost_ret (v := sv (inS s s.size)) (by simp [results, Tryd.results19, go_sem, qc0, qc1, qc2, qc3, sv]) rfl ?_
      exact ⟨rfl, Below.set4 hB (by omega) _ _ _ _⟩

end Go.Proofs.YtfkidgbjjlgjdaaDoor
