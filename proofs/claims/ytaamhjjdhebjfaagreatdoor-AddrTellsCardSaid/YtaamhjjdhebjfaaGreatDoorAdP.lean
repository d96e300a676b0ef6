/- AddrSpans, AddrLast: the walks. -/
import Derived.Test.YtaamhjjdhebjfaaGreatDoorAdO
namespace Go.Proofs.YtaamhjjdhebjfaaGreatDoor
open Go.RowKit Go.Lib
set_option linter.unusedVariables false
set_option linter.unusedSimpArgs false

/-- Two blocks, the range's and the state's behind it. -/
theorem new72 (w : World) (v0 v1 v2 v3 v4 v5 v6 u0 u1 : Value) : Seven ((w.alloc (.cells #[v0, v1, v2, v3, v4, v5, v6] 25)).alloc (.cells #[u0, u1] 44)) w.heap.size 25 v0 v1 v2 v3 v4 v5 v6
    ∧ Two ((w.alloc (.cells #[v0, v1, v2, v3, v4, v5, v6] 25)).alloc (.cells #[u0, u1] 44)) (w.heap.size + 1) 44 u0 u1 := by
  refine ⟨(Seven.new w _ _ _ _ _ _ _ _).alloc _, ?_⟩
  have h := Two.new (w.alloc (.cells #[v0, v1, v2, v3, v4, v5, v6] 25)) 44 u0 u1
  rw [World.size_alloc] at h
  exact h

def spR (a t : Nat) : Rg := ⟨⟨1, a, 0⟩, ⟨1, t, 0⟩, false⟩
def spS (a t k : Nat) : Bool × Int := if a < k ∧ k ≤ t then (true, (t : Int)) else (false, 0)
theorem spR_nums (a t : Nat) (ht : t ≤ 999999999) : (spR a t).Nums := ⟨fun h => absurd h (by simp [spR]), by simp [spR], by simp [spR]; omega⟩
theorem sp_step (a t k : Nat) (L : Bool) (ha : 1 ≤ a) : askA (spR a t) (spS a t k) (k : Int) L [] = (decide (k = a ∨ (a < k ∧ k ≤ t)), spS a t (k + 1)) := by
  have h1 : hitA ⟨1, a, 0⟩ (k : Int) L [] = decide (k = a) := by simp [hitA]; omega
  have h0 : askA (spR a t) (spS a t k) (k : Int) L [] = if (spS a t k).1 then goA (spR a t) (spS a t k) k L [] else if ((1 : Int) = 1 ∧ (a : Int) = 0) ∧ (k : Int) = 1 then goA (spR a t) (true, 0) k L [] else if hitA ⟨1, a, 0⟩ (k : Int) L [] then (true, begA ⟨1, t, 0⟩ k L) else (false, spS a t k) := rfl
  rw [h0, h1, if_neg (show ¬ (((1 : Int) = 1 ∧ (a : Int) = 0) ∧ (k : Int) = 1) by omega)]
  by_cases hk : a < k ∧ k ≤ t
  · have e1 : spS a t k = (true, (t : Int)) := if_pos hk
    rw [e1, if_pos rfl]
    have h2 : goA (spR a t) (true, (t : Int)) k L [] = if (1 : Int) = 1 ∧ (t : Int) < k then (hitA ⟨1, a, 0⟩ k L [], false, 0) else if endA ⟨1, t, 0⟩ (true, (t : Int)) k L [] then (true, false, 0) else (true, true, (t : Int)) := rfl
    rw [h2, if_neg (by omega)]
    have h3 : endA ⟨1, t, 0⟩ (true, (t : Int)) k L [] = decide ((t : Int) ≤ k) := by simp [endA]
    rw [h3, show decide (k = a ∨ (a < k ∧ k ≤ t)) = true by simp [hk]]
    by_cases hkt : k = t
    · subst hkt
      rw [if_pos (by simp)]
      have : spS a k (k + 1) = (false, 0) := if_neg (by omega)
      rw [this]
    · rw [if_neg (by simp; omega)]
      have : spS a t (k + 1) = (true, (t : Int)) := if_pos (by omega)
      rw [this]
  · have e1 : spS a t k = (false, 0) := if_neg hk
    rw [e1, if_neg (by simp)]
    by_cases hka : k = a
    · subst hka
      rw [if_pos (by simp)]
      have h2 : begA ⟨1, t, 0⟩ (k : Int) L = opn (decide ((k : Int) < t)) t := rfl
      rw [h2, show decide (k = k ∨ (k < k ∧ k ≤ t)) = true by simp]
      by_cases hkt : k < t
      · have : spS k t (k + 1) = (true, (t : Int)) := if_pos (by omega)
        rw [this, show decide ((k : Int) < t) = true by simp; omega]; rfl
      · have : spS k t (k + 1) = (false, 0) := if_neg (by omega)
        rw [this, show decide ((k : Int) < t) = false by simp; omega]; rfl
    · rw [if_neg (by simpa using hka)]
      have : spS a t (k + 1) = (false, 0) := if_neg (by omega)
      rw [this, show decide (k = a ∨ (a < k ∧ k ≤ t)) = false by simp; omega]

end Go.Proofs.YtaamhjjdhebjfaaGreatDoor
