/- The reference's Fold. -/
import Derived.Test.YtblogejljilcdaaDoorSetW
import Derived.Test.YtblogejljilcdaaDoorSetD
namespace Go.Proofs.YtblogejljilcdaaDoor
open Go.RowKit
set_option linter.unusedVariables false
set_option linter.unusedSimpArgs false

/-- Folded for the letters below k. -/
def part (f : Nat → Bool) (k j : Nat) : Bool := if (65 ≤ j ∧ j < k) ∨ (97 ≤ j ∧ j < k + 32) then foldF f j else f j
theorem part_start (f : Nat → Bool) (j : Nat) : part f 65 j = f j := by
  have e : ¬ ((65 ≤ j ∧ j < 65) ∨ (97 ≤ j ∧ j < 65 + 32)) := by omega
  rw [part, if_neg e]
theorem part_done (f : Nat → Bool) (j : Nat) : part f 91 j = foldF f j := by
  unfold part
  by_cases e : (65 ≤ j ∧ j < 91) ∨ (97 ≤ j ∧ j < 91 + 32)
  · rw [if_pos e]
  · rw [if_neg e]
    have h1 : ¬ (65 ≤ j ∧ j ≤ 90) := by omega
    have h2 : ¬ (97 ≤ j ∧ j ≤ 122) := by omega
    simp [foldF, oth, h1, h2]
theorem part_step (f : Nat → Bool) (k : Nat) (h0 : 65 ≤ k) (h1 : k ≤ 90) (j : Nat) :
    (if j = k + 32 then (f k || f (k + 32)) else if j = k then (f k || f (k + 32)) else part f k j) = part f (k + 1) j := by
  by_cases e1 : j = k + 32
  · subst e1
    have a1 : oth (k + 32) = k := by
      have n1 : ¬ (65 ≤ k + 32 ∧ k + 32 ≤ 90) := by omega
      rw [oth, if_neg n1, if_pos (by omega)]; omega
    rw [if_pos rfl, part, if_pos (by omega), foldF, a1, Bool.or_comm]
  · by_cases e2 : j = k
    · subst e2
      have a1 : oth j = j + 32 := by rw [oth, if_pos (by omega)]
      rw [if_neg e1, if_pos rfl, part, if_pos (by omega), foldF, a1]
    · rw [if_neg e1, if_neg e2, part, part]
      by_cases e : (65 ≤ j ∧ j < k) ∨ (97 ≤ j ∧ j < k + 32)
      · rw [if_pos e, if_pos (by omega)]
      · rw [if_neg e, if_neg (by omega)]

set_option maxRecDepth 100000 in
set_option maxHeartbeats 4000000 in
theorem rfold_c (f : Nat → Bool) (w : World) :
    Calls Tryd.prog 26 #[bv f] w fun e w' => e = .returned (bv (foldF f)) ∧ Below w.heap.size w w' := by
  obtain ⟨hz, hsz⟩ := zero_of_info (P := Tryd.prog) info27
  unfold bv
  go_enter Tryd.func26, Tryd.ntmps26
  go_wp2
  go_loopw [3] (fun i wr => ∃ k : Nat, 65 ≤ k ∧ k ≤ 91 ∧ i = .int .i32 k ∧ Row wr w.heap.size (part f k) ∧ Row wr (w.heap.size + 1) (fun _ => false) ∧ Below w.heap.size w wr) (fun i _ => 91 - (intOf i).toNat)
  case atStart =>
    refine ⟨65, by omega, by omega, rfl, ?_, ?_, ((Below.refl _ w).alloc (Nat.le_refl _) _).alloc (by simp) _⟩
    · exact ((Row.new w f).alloc _).congr fun i _ => (part_start f i).symm
    · have := Row.new (w.alloc (.cells (barr f) 34)) (fun _ => false)
      rwa [World.size_alloc] at this
  case round =>
    obtain ⟨k, hk0, hk, rfl, h0, h1, hB⟩ := hrel
    by_cases hlt : k ≤ 90
    · have hc := h0.cell k (by omega)
      have hd := h0.cell (k + 32) (by omega)
      have n1 : ¬ ((65 ≤ k ∧ k < k) ∨ (97 ≤ k ∧ k < k + 32)) := by omega
      have n2 : ¬ ((65 ≤ k + 32 ∧ k + 32 < k) ∨ (97 ≤ k + 32 ∧ k + 32 < k + 32)) := by omega
      rw [part, if_neg n1] at hc
      rw [part, if_neg n2] at hd
      have hf1 := h0.fz k
      have hf2 := h0.fz (k + 32)
      have hS := Lib.hid (part_step f k hk0 hlt)
      clear n1 n2
      cases hfk : f k
      · cases hgk : f (k + 32)
        · rw [hfk] at hc
          rw [hgk] at hd
          have hS2 := Lib.hid (show ∀ j, (if j = k + 32 then false else if j = k then false else part f k j) = part f (k + 1) j from fun j => by have := hS.out j; rwa [hfk, hgk, Bool.or_false] at this)
          clear hfk hgk hS
          go_wp2
          go_roundw
          case rel =>
            refine ⟨k + 1, by omega, by omega, by simp, (((h0.set k false).set (k + 32) false).congr fun i _ => ?_), (h1.other (p := ⟨w.heap.size, k, none⟩) (by show w.heap.size + 1 ≠ w.heap.size; omega) _).other (p := ⟨w.heap.size, k + 32, none⟩) (by show w.heap.size + 1 ≠ w.heap.size; omega) _, (hB.setCell (p := ⟨w.heap.size, k, none⟩) (Nat.le_refl _) _).setCell (p := ⟨w.heap.size, k + 32, none⟩) (Nat.le_refl _) _⟩
            rw [← hS2.out i]
          case measure => (simp [intOf]) <;> omega
        · rw [hfk] at hc
          rw [hgk] at hd
          have hS2 := Lib.hid (show ∀ j, (if j = k + 32 then true else if j = k then true else part f k j) = part f (k + 1) j from fun j => by have := hS.out j; rwa [hfk, hgk, Bool.or_true] at this)
          clear hfk hgk hS
          go_wp2
          go_roundw
          case rel =>
            refine ⟨k + 1, by omega, by omega, by simp, (((h0.set k true).set (k + 32) true).congr fun i _ => ?_), (h1.other (p := ⟨w.heap.size, k, none⟩) (by show w.heap.size + 1 ≠ w.heap.size; omega) _).other (p := ⟨w.heap.size, k + 32, none⟩) (by show w.heap.size + 1 ≠ w.heap.size; omega) _, (hB.setCell (p := ⟨w.heap.size, k, none⟩) (Nat.le_refl _) _).setCell (p := ⟨w.heap.size, k + 32, none⟩) (Nat.le_refl _) _⟩
            rw [← hS2.out i]
          case measure => (simp [intOf]) <;> omega
      · rw [hfk] at hc
        have hS2 := Lib.hid (show ∀ j, (if j = k + 32 then true else if j = k then true else part f k j) = part f (k + 1) j from fun j => by have := hS.out j; rwa [hfk, Bool.true_or] at this)
        clear hfk hS
        have hd2 := hd
        · go_wp2
          go_roundw
          case rel =>
            refine ⟨k + 1, by omega, by omega, by simp, (((h0.set k true).set (k + 32) true).congr fun i _ => ?_), (h1.other (p := ⟨w.heap.size, k, none⟩) (by show w.heap.size + 1 ≠ w.heap.size; omega) _).other (p := ⟨w.heap.size, k + 32, none⟩) (by show w.heap.size + 1 ≠ w.heap.size; omega) _, (hB.setCell (p := ⟨w.heap.size, k, none⟩) (Nat.le_refl _) _).setCell (p := ⟨w.heap.size, k + 32, none⟩) (Nat.le_refl _) _⟩
            rw [← hS2.out i]
          case measure => (simp [intOf]) <;> omega
    · obtain rfl : k = 91 := by omega
      have h0 := h0.congr (g := foldF f) (fun i hi => part_done f i)
      have hst := h1.storeCells
      go_wp2
      refine wp_load_row h0 rfl rfl ?_
      go_wp2
      have q := h1.put (foldF f)
      have ql := q.load
      refine bodyPost_ret (v := .agg (barr (foldF f))) ?_ rfl ⟨rfl, Below.setRow hB (by omega) _⟩
      simp [results, Tryd.results26, asAddr, Result.andThen, ql]

end Go.Proofs.YtblogejljilcdaaDoor
