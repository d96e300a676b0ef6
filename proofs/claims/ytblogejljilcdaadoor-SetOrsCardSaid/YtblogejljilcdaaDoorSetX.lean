/- SetOrs: the three ways of Has, together. -/
import Derived.Test.YtblogejljilcdaaDoorSetXa
import Derived.Test.YtblogejljilcdaaDoorSetXb
import Derived.Test.YtblogejljilcdaaDoorSetXc
namespace Go.Proofs.YtblogejljilcdaaDoor
open Go.RowKit
set_option linter.unusedVariables false
set_option linter.unusedSimpArgs false

theorem cnt_or_and (s t : Nat → Bool) : ∀ n, cnt s n + cnt t n = cnt (fun i => s i || t i) n + cnt (fun i => !(!s i || !t i)) n
  | 0 => rfl
  | n + 1 => by
    have := cnt_or_and s t n
    have h : (s n).toNat + (t n).toNat = (s n || t n).toNat + (!(!s n || !t n)).toNat := by cases s n <;> cases t n <;> rfl
    simp only [cnt]
    omega

/-- **SetOrs: true, whatever the sets and the byte.** -/
theorem setOrsW (s t : Nat → Bool) (b : Nat) (hb : b < 256) (w : World) (hw : Fit w) :
    Calls Tryd.prog 3 #[sv s, sv t, .int .u8 b] w fun e w' => e = .returned (.bool true) ∧ Below w.heap.size w w' := by
  have ho2 : ∀ (B cap : Nat) w, w.heap[B]? = some (.cells #[.int .u64 (wd t 0), .int .u64 (wd t 1), .int .u64 (wd t 2), .int .u64 (wd t 3), .int .u64 (wd s 0), .int .u64 (wd s 1), .int .u64 (wd s 2), .int .u64 (wd s 3)] 24 (0, 0)) → Calls Tryd.prog 11 #[.slice (some ⟨B, 0, none⟩) 2 cap] w fun e w' => e = .returned (sv fun i => s i || t i) ∧ Below w.heap.size w w' := fun B cap w h => by
    have := or2_c t s B cap w 24 h
    rwa [show (fun i => t i || s i) = (fun i => s i || t i) from funext fun i => Bool.or_comm _ _] at this
  have ho3 : ∀ (B cap : Nat) w, w.heap[B]? = some (.cells #[.int .u64 (wd (fun i => s i || t i) 0), .int .u64 (wd (fun i => s i || t i) 1), .int .u64 (wd (fun i => s i || t i) 2), .int .u64 (wd (fun i => s i || t i) 3), .int .u64 (wd s 0), .int .u64 (wd s 1), .int .u64 (wd s 2), .int .u64 (wd s 3)] 24 (0, 0)) → Calls Tryd.prog 11 #[.slice (some ⟨B, 0, none⟩) 2 cap] w fun e w' => e = .returned (sv fun i => s i || t i) ∧ Below w.heap.size w w' := fun B cap w h => by
    have := or2_c (fun i => s i || t i) s B cap w 24 h
    rwa [show (fun i => (s i || t i) || s i) = (fun i => s i || t i) from funext fun i => by cases s i <;> cases t i <;> rfl] at this
  have h0 := cnt_or_and s t 256
  have hz1 := cnt_le (fun i => s i || t i) 256
  have hz2 := cnt_le (fun i => !(!s i || !t i)) 256
  cases hs : s b
  · cases ht : t b
    · exact ors_c b hb s t (fun i => s i || t i) (fun i => !s i) (fun i => !t i) (fun i => !s i || !t i) (fun i => !(!s i || !t i)) (cnt (fun i => s i || t i) 256 : Nat) (cnt s 256 : Nat) (cnt t 256 : Nat) (cnt (fun i => !(!s i || !t i)) 256 : Nat) (by omega) (by omega) (by omega) (by omega) (by omega)
        (fun B cap w h => or2_c s t B cap w _ h) ho2 ho3 (fun B cap w h => or2_c (fun i => !s i) (fun i => !t i) B cap w _ h) (fun w => not_c s w) (fun w => not_c t w) (fun w => not_c _ w)
        (fun w => by have := has_c (fun i => s i || t i) b hb w; rwa [show (s b || t b) = false by rw [hs, ht]; rfl] at this) (fun w => by have := has_c s b hb w; rwa [hs] at this) (fun w => by have := has_c t b hb w; rwa [ht] at this)
        (fun w => size_c _ w) (fun w => size_c s w) (fun w => size_c t w) (fun w => size_c _ w) w hw
    · exact ors_b b hb s t (fun i => s i || t i) (fun i => !s i) (fun i => !t i) (fun i => !s i || !t i) (fun i => !(!s i || !t i)) (cnt (fun i => s i || t i) 256 : Nat) (cnt s 256 : Nat) (cnt t 256 : Nat) (cnt (fun i => !(!s i || !t i)) 256 : Nat) (by omega) (by omega) (by omega) (by omega) (by omega)
        (fun B cap w h => or2_c s t B cap w _ h) ho2 ho3 (fun B cap w h => or2_c (fun i => !s i) (fun i => !t i) B cap w _ h) (fun w => not_c s w) (fun w => not_c t w) (fun w => not_c _ w)
        (fun w => by have := has_c (fun i => s i || t i) b hb w; rwa [show (s b || t b) = true by rw [hs, ht]; rfl] at this) (fun w => by have := has_c s b hb w; rwa [hs] at this) (fun w => by have := has_c t b hb w; rwa [ht] at this)
        (fun w => size_c _ w) (fun w => size_c s w) (fun w => size_c t w) (fun w => size_c _ w) w hw
  · exact ors_a b (t b) hb s t (fun i => s i || t i) (fun i => !s i) (fun i => !t i) (fun i => !s i || !t i) (fun i => !(!s i || !t i)) (cnt (fun i => s i || t i) 256 : Nat) (cnt s 256 : Nat) (cnt t 256 : Nat) (cnt (fun i => !(!s i || !t i)) 256 : Nat) (by omega) (by omega) (by omega) (by omega) (by omega)
      (fun B cap w h => or2_c s t B cap w _ h) ho2 ho3 (fun B cap w h => or2_c (fun i => !s i) (fun i => !t i) B cap w _ h) (fun w => not_c s w) (fun w => not_c t w) (fun w => not_c _ w)
      (fun w => by have := has_c (fun i => s i || t i) b hb w; rwa [show (s b || t b) = true by rw [hs]; rfl] at this) (fun w => by have := has_c s b hb w; rwa [hs] at this) (fun w => has_c t b hb w)
      (fun w => size_c _ w) (fun w => size_c s w) (fun w => size_c t w) (fun w => size_c _ w) w hw

end Go.Proofs.YtblogejljilcdaaDoor
