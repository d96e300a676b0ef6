/- Of no program but for atoiNum: a count's numeral is read as the count. -/
import Derived.Test.YtjnedhjpgefbpaaGreatDoorZRxTh
import Derived.Test.YtjnedhjpgefbpaaGreatDoorZRxU
import Derived.Lib.IndexMore
import Derived.Lib.IndexBytes
namespace Go.Proofs.YtjnedhjpgefbpaaGreatDoor
open Go.RowKit Go.Lib
set_option linter.unusedVariables false
set_option linter.unusedSimpArgs false

/-- A number below 1000, written out. -/
def dig3 (n : Nat) : List UInt8 := if n < 10 then [UInt8.ofNat (48 + n)] else if n < 100 then [UInt8.ofNat (48 + n / 10), UInt8.ofNat (48 + n % 10)] else [UInt8.ofNat (48 + n / 100), UInt8.ofNat (48 + n / 10 % 10), UInt8.ofNat (48 + n % 10)]
theorem dec3 (n : Nat) (h : n < 1000) : decDigits n = dig3 n := by
  unfold dig3
  by_cases h1 : n < 10
  · rw [if_pos h1, decDigits_one h1]
  · rw [if_neg h1]
    by_cases h2 : n < 100
    · rw [if_pos h2, decDigits_two h1 h2]
    · rw [if_neg h2, decDigits, dif_neg h1, decDigits_two (by omega) (by omega), Nat.div_div_eq_div_mul]
      simp
theorem atoi3 : ∀ n, n < 1000 → atoiNum (dig3 n) = (n : Int) ∧ (44 : UInt8) ∉ dig3 n ∧ (59 : UInt8) ∉ dig3 n ∧ dig3 n ≠ [] := by decide +kernel
/-- Atoi reads what Itoa writes, at -1 and below 1000; and no end stands in it. -/
theorem atoi_itoa (n : Int) (h0 : -1 ≤ n) (h1 : n < 1000) : atoiNum (itoa n) = n ∧ (44 : UInt8) ∉ itoa n ∧ (59 : UInt8) ∉ itoa n := by
  by_cases hn : n = -1
  · subst hn
    have e : itoa (-1) = [45, 49] := by
      unfold itoa
      rw [if_pos (by omega)]
      show 45 :: decDigits 1 = _
      rw [decDigits_one (by omega)]
      rfl
    rw [e]
    decide +kernel
  · obtain ⟨k, rfl⟩ : ∃ k : Nat, n = k := ⟨n.toNat, by omega⟩
    have e : itoa (k : Int) = decDigits k := by unfold itoa; rw [if_neg (by omega)]; simp
    rw [e, dec3 k (by omega)]
    obtain ⟨a, b, c, _⟩ := atoi3 k (by omega)
    exact ⟨a, b, c⟩

end Go.Proofs.YtjnedhjpgefbpaaGreatDoor

namespace Go.Proofs.YtjnedhjpgefbpaaGreatDoor
open Go.RowKit Go.Lib
set_option linter.unusedVariables false
set_option linter.unusedSimpArgs false

/-- The digits. -/
def digs : List UInt8 := [48, 49, 50, 51, 52, 53, 54, 55, 56, 57, 97, 98, 99, 100, 101, 102]
/-- The bytes that a text tells, two digits each; those ahead of what is none. -/
def unhex : List UInt8 → List UInt8
  | a :: b :: t => if 0 ≤ indexByte digs a ∧ 0 ≤ indexByte digs b then UInt8.ofNat ((indexByte digs a).toNat * 16 + (indexByte digs b).toNat) :: unhex t else []
  | _ => []
theorem digs_dig : ∀ q, q < 16 → indexByte digs (dig q) = (q : Int) := by decide +kernel
theorem unhex_hexl (l : List UInt8) : unhex (hexl l) = l := by
  induction l with
  | nil => rfl
  | cons a t ih =>
    have ha : a.toNat < 256 := a.toNat_lt
    show unhex (dig (a.toNat / 16) :: dig (a.toNat % 16) :: hexl t) = _
    rw [unhex, digs_dig _ (by omega), digs_dig _ (by omega), if_pos ⟨by omega, by omega⟩, ih]
    congr 1
    have e : ((a.toNat / 16 : Nat) : Int).toNat * 16 + ((a.toNat % 16 : Nat) : Int).toNat = a.toNat := by omega
    rw [e]
    simp
theorem unhex_len : ∀ l : List UInt8, 2 * (unhex l).length ≤ l.length
  | [] => by simp [unhex]
  | [a] => by simp [unhex]
  | a :: b :: t => by
    have := unhex_len t
    unfold unhex
    split <;> simp <;> omega

/-- What stands ahead of the first end, and behind it. -/
theorem cut_at (e : UInt8) (xs r : List UInt8) (h : e ∉ xs) : Lib.cut (xs ++ e :: r) [e] = (xs, r, true) := by
  have hi : Lib.index (xs ++ e :: r) [e] = (xs.length : Int) := by
    rw [index_one]
    induction xs with
    | nil => simp [indexByte]
    | cons a t ih =>
      have hne : a ≠ e := fun q => h (by simp [q])
      have ht := ih fun q => h (List.mem_cons_of_mem _ q)
      show (if (a == e) = true then (0 : Int) else if (indexByte (t ++ e :: r) e == -1) = true then -1 else indexByte (t ++ e :: r) e + 1) = _
      rw [ht, if_neg (by simpa using hne), if_neg (by simp)]
      simp
  unfold Lib.cut
  rw [hi, if_pos (by omega)]
  simp
/-- What is behind an end is shorter, or nothing. -/
theorem cut_len (s e : List UInt8) : (Lib.cut s e).1.length ≤ s.length ∧ (Lib.cut s e).2.1.length ≤ s.length := by
  unfold Lib.cut
  split
  · simp only [List.length_take, List.length_drop]; omega
  · exact ⟨Nat.le_refl _, by simp⟩

end Go.Proofs.YtjnedhjpgefbpaaGreatDoor
