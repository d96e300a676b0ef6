/- The reference's Bytes and Size. -/
import Derived.Test.YtblogejljilcdaaDoorSetI
import Derived.Test.YtblogejljilcdaaDoorSetE
import Derived.OwnWalk
namespace Go.Proofs.YtblogejljilcdaaDoor
open Go.RowKit
set_option linter.unusedVariables false
set_option linter.unusedSimpArgs false

theorem Row.kept {A B : World} {row : Option Nat} {b : Nat} {f : Nat → Bool} (h : Row A b f) (hg : A.grownBy B row) (hr : row ≠ some b) : Row B b f := ⟨(hg.block b h.lt (fun e => hr e.symm)).trans h.heap⟩
theorem own_ne {W : World} {base k n : Nat} {v : Value} {xs : List Value} (h : W.ownsRow base 5 1 v k xs) (hn : n < base) : v.ownBlock ≠ some n := by
  rcases h.2 with ⟨rfl, _⟩ | ⟨g, cap, cur, rfl, hb, _⟩
  · simp [Value.ownBlock]
  · intro e
    have : g = n := by simpa [Value.ownBlock] using e
    omega
theorem own_ge {W : World} {base k n : Nat} {v : Value} {xs : List Value} (h : W.ownsRow base 5 1 v k xs) (hn : v.ownBlock = some n) : base ≤ n := by
  rcases h.2 with ⟨rfl, _⟩ | ⟨g, cap, cur, rfl, hb, _⟩
  · simp [Value.ownBlock] at hn
  · have : g = n := by simpa [Value.ownBlock] using hn
    omega

set_option maxRecDepth 100000 in
set_option maxHeartbeats 4000000 in
theorem rbytes_c (f : Nat → Bool) (w : World) :
    Calls Tryd.prog 29 #[bv f] w fun e w' => e = .returned (.string (bytesOf f)) ∧ Below w.heap.size w w' := by
  obtain ⟨hz, hsz⟩ := zero_of_info (P := Tryd.prog) info27
  obtain ⟨i0, hi, hz0, hz1, hz2⟩ := info_parts infoU8
  unfold bv
  go_enter Tryd.func29, Tryd.ntmps29
  go_wp2
  go_loopw [3, 4] (fun v i wr => ∃ k : Nat, k ≤ 256 ∧ i = .int .i64 k ∧ Row wr w.heap.size f ∧ wr.ownsRow (w.heap.size + 1) 5 1 v (U f k).length ((nums (U f k)).map (Value.int .u8)) ∧ Below w.heap.size w wr) (fun _ i _ => 256 - (intOf i).toNat)
  case atStart =>
    refine ⟨0, by omega, rfl, (Row.new w f).alloc _, ⟨rfl, .inr ⟨_, 0, #[], rfl, Nat.le_refl _, ?_, Nat.le_refl _, by unfold maxLen; omega, rfl, rfl⟩⟩, ((Below.refl _ w).alloc (Nat.le_refl _) _).alloc (by simp) _⟩
    show ((w.heap.push (Obj.cells (barr f) 34)).push (Obj.cells #[] 5))[w.heap.size + 1]? = _
    rw [show w.heap.size + 1 = (w.heap.push (Obj.cells (barr f) 34)).size from (Array.size_push _).symm]
    exact Array.getElem?_push_size
  case round =>
    obtain ⟨k, hk, rfl, h0, hown, hB⟩ := hrel
    by_cases hlt : k < 256
    · have hc := h0.cell k hlt
      have hlen := U_length f k hk
      have hcnt := cnt_le f k
      cases hfk : f k
      · rw [hfk] at hc
        have hU := U_miss hfk
        go_wp2
        go_roundw
        case rel =>
          refine ⟨k + 1, by omega, by simp, h0, ?_, hB⟩
          rw [hU]; exact hown
        case measure => (simp [intOf]) <;> omega
      · rw [hfk] at hc
        have hU := U_hit hlt hfk
        have hsz1 := h0.lt
        have hsz0 := hB.size
        go_wp2_with (at_builtin; refine wpList_append_own _ rfl _ _ 73 rfl (w.heap.size + 1) 5 i0 (.int .u8 0) 1 1 Tryd.underlying73 hi hz0 hz1 hz2 rfl (by decide) _ _ _ rfl (hown.alloc _) ⟨wr.heap.size, 0, none⟩ 1 1 [.int .u8 k] rfl rfl (cell_one_new _ _ _) (by simp [Value.oneCell']) (by unfold maxLen; omega) (by omega) (by simp; omega) ?_; intro v' w3 hown' hgrow' _)
        go_roundw
        case rel =>
          refine ⟨k + 1, by omega, by simp, (h0.alloc _).kept hgrow' (own_ne hown (by omega)), ?_, (hB.alloc (by omega) _).grown hgrow' (by simp; omega) fun n hn => Nat.le_trans (by omega) (own_ge hown hn)⟩
          rw [hU]
          simpa [nums] using hown'
        case measure => (simp [intOf]) <;> omega
    · obtain rfl : k = 256 := by omega
      have hcv := convert_own hown
      go_wp2
      go_ret
      exact ⟨rfl, hB⟩

end Go.Proofs.YtblogejljilcdaaDoor
