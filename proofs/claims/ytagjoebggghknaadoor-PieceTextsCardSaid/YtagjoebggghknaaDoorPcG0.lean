/- Pieces, of no program: numbers, words. -/
import Derived.Test.YtagjoebggghknaaDoorPcB
namespace Go.Proofs.YtagjoebggghknaaDoor
open Go.Lib
set_option linter.unusedVariables false
set_option linter.unusedSimpArgs false

def dgF (n : Nat) (c : UInt8) : Nat := min (n * 10 + (c.toNat - 48)) 1000000000
theorem nmP_eq (l : List UInt8) : nmP l = (dgP l).foldl dgF 0 := rfl
theorem dgF_le (n : Nat) (c : UInt8) : dgF n c ≤ 1000000000 := Nat.min_le_right _ _
def dgG (n : Nat) (c : UInt8) : Nat := n * 10 + (c.toNat - 48)
theorem dg_min : ∀ (ds : List UInt8) (a : Nat), ds.foldl dgF (min a 1000000000) = min (ds.foldl dgG a) 1000000000
  | [], a => rfl
  | c :: r, a => by
    rw [List.foldl_cons, List.foldl_cons, ← dg_min r (dgG a c)]
    congr 1
    unfold dgF dgG
    omega
theorem dgG_ge : ∀ (ds : List UInt8) (a : Nat), a ≤ ds.foldl dgG a
  | [], a => Nat.le_refl _
  | c :: r, a => by
    rw [List.foldl_cons]
    have := dgG_ge r (dgG a c)
    have : a ≤ dgG a c := by unfold dgG; omega
    omega
theorem dgG_mono : ∀ (ds : List UInt8) (a b : Nat), a ≤ b → ds.foldl dgG a ≤ ds.foldl dgG b
  | [], a, b, h => h
  | c :: r, a, b, h => by
    rw [List.foldl_cons, List.foldl_cons]
    exact dgG_mono r _ _ (by unfold dgG; omega)
theorem parse_dg : ∀ (ds : List UInt8) (a : Nat), (∀ c ∈ ds, isDgt c = true) → parseUint10 a ds = if ds.foldl dgG a < 18446744073709551616 ∨ ds = [] then .ok (ds.foldl dgG a) else .range
  | [], a, _ => by rw [parseUint10]; simp
  | c :: r, a, h => by
    have hc := h c (by simp)
    have hc2 : 48 ≤ c.toNat ∧ c.toNat ≤ 57 := by unfold isDgt at hc; simpa using hc
    have ih := parse_dg r (dgG a c) (fun x hx => h x (by simp [hx]))
    rw [parseUint10, if_pos hc2, List.foldl_cons]
    have hge := dgG_ge r (dgG a c)
    have hd : a * 10 + (c.toNat - 48) = dgG a c := rfl
    rw [hd]
    by_cases h1 : 1844674407370955162 ≤ a
    · have hx : a * 10 ≤ dgG a c := by unfold dgG; omega
      rw [if_pos h1, if_neg (by rintro (h | h); · omega
                                · cases h)]
    · rw [if_neg h1]
      by_cases h2 : 18446744073709551616 ≤ dgG a c
      · rw [if_pos h2, if_neg (by rintro (h | h); · omega
                                  · cases h)]
      · rw [if_neg h2, ih]
        by_cases h3 : r.foldl dgG (dgG a c) < 18446744073709551616
        · rw [if_pos (.inl h3), if_pos (.inl h3)]
        · cases r with
          | nil => exact absurd h3 (by simp only [List.foldl_nil] at h3 ⊢; omega)
          | cons x r' => rw [if_neg (by rintro (h | h); exact h3 h; cases h), if_neg (by rintro (h | h); exact h3 h; cases h)]
/-- What Atoi says of digits. -/
theorem atoi_dg (ds : List UInt8) (h : ∀ c ∈ ds, isDgt c = true) (hne : ds ≠ []) :
    (∃ v : Nat, atoiAll ds = .ok (v : Int) ∧ ((ds.foldl dgF 0 ≤ 999999999 → v = ds.foldl dgF 0) ∧ (999999999 < ds.foldl dgF 0 → 999999999 < v))) ∨ (atoiAll ds = .range ∧ 999999999 < ds.foldl dgF 0) := by
  have hp := parse_dg ds 0 h
  have hm := dg_min ds 0
  rw [show min 0 1000000000 = 0 from rfl] at hm
  obtain ⟨v, hv⟩ : ∃ v, v = ds.foldl dgG 0 := ⟨_, rfl⟩
  rw [← hv] at hp hm
  cases hds : ds with
  | nil => exact absurd hds hne
  | cons c r =>
    have hc := h c (by rw [hds]; simp)
    have hc2 : 48 ≤ c.toNat ∧ c.toNat ≤ 57 := by unfold isDgt at hc; simpa using hc
    rw [← hds]
    have hmag : parseMag ds = if v < 18446744073709551616 then .ok v else .range := by
      unfold parseMag
      rw [if_neg hne, hp]
      simp only [hne, or_false]
    have ha : ∀ u, parseMag ds = .ok u → atoiAll ds = if 9223372036854775808 ≤ u then .range else .ok (u : Int) := fun u hu => by
      rw [hds] at hu ⊢
      unfold atoiAll
      simp only
      rw [if_neg (by omega : ¬ (c.toNat = 43 ∨ c.toNat = 45)), hu]
      simp only
      by_cases hv : 9223372036854775808 ≤ u
      · rw [if_pos ⟨by omega, hv⟩, if_pos hv]
      · rw [if_neg (fun q => hv q.2), if_neg (fun q => by omega), if_neg hv, if_neg (by omega)]
    have hr : parseMag ds = .range → atoiAll ds = .range := fun hu => by
      rw [hds] at hu ⊢
      unfold atoiAll
      simp only
      rw [if_neg (by omega : ¬ (c.toNat = 43 ∨ c.toNat = 45)), hu]
    by_cases h1 : v < 18446744073709551616
    · rw [if_pos h1] at hmag
      rw [ha v hmag]
      by_cases h2 : 9223372036854775808 ≤ v
      · rw [if_pos h2]; right; exact ⟨rfl, by omega⟩
      · rw [if_neg h2]; left; exact ⟨v, rfl, by omega, by omega⟩
    · rw [if_neg h1] at hmag
      right; exact ⟨hr hmag, by omega⟩
theorem dgP_all : ∀ (l : List UInt8), ∀ c ∈ dgP l, isDgt c = true
  | [], c, hc => by simp [dgP] at hc
  | x :: l, c, hc => by
    have ih := dgP_all l c
    unfold dgP at ih hc
    rw [List.takeWhile_cons] at hc
    cases hx : isDgt x
    · rw [hx] at hc; simp at hc
    · rw [hx] at hc
      simp only [if_true, List.mem_cons] at hc
      rcases hc with rfl | hc
      · exact hx
      · exact ih hc
/-- A word, less the blanks at its end. -/
def trB (m : List UInt8) : List UInt8 := (m.reverse.dropWhile isBl).reverse
theorem trB_snoc (m : List UInt8) (c : UInt8) : trB (m ++ [c]) = if isBl c = true then trB m else m ++ [c] := by
  unfold trB
  rw [List.reverse_append, List.reverse_singleton, List.singleton_append, List.dropWhile_cons]
  split
  · rfl
  · simp
theorem trB_nil : trB [] = [] := rfl
theorem trB_len (m : List UInt8) : (trB m).length ≤ m.length := by
  unfold trB
  rw [List.length_reverse]
  exact Nat.le_trans (List.dropWhile_sublist _).length_le (by simp)
def gon (el : List UInt8) (c : UInt8) : Bool := !(c == 10 || el.contains c)
theorem wnP_eq (el l : List UInt8) : wnP el l = (l.takeWhile (gon el)).length := rfl
theorem wdP_eq (el l : List UInt8) : wdP el l = trB (l.take (wnP el l)) := rfl
theorem take_tw (f : UInt8 → Bool) (l : List UInt8) : l.take (l.takeWhile f).length = l.takeWhile f := by
  induction l with
  | nil => rfl
  | cons c r ih =>
    rw [List.takeWhile_cons]
    split
    · rw [List.length_cons, List.take_succ_cons, ih]
    · rfl
theorem tw_le (f : UInt8 → Bool) (l : List UInt8) : (l.takeWhile f).length ≤ l.length := (List.takeWhile_sublist _).length_le
end Go.Proofs.YtagjoebggghknaaDoor
