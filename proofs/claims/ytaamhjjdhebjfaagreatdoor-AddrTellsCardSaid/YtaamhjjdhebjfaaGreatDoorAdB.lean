/- Addr, of no program: how a range is told, and read. -/
import Derived.Test.YtaamhjjdhebjfaaGreatDoorAdA
import Derived.Lib.AtoiAll
import Derived.Lib.ItoaNum
import Derived.Lib.TrimByte
import Derived.Lib.IndexMore
import Derived.Lib.IndexBytes
import Derived.Lib.Strings
namespace Go.Proofs.YtaamhjjdhebjfaaGreatDoor
open Go.Lib
set_option linter.unusedVariables false
set_option linter.unusedSimpArgs false

def isDg (b : UInt8) : Prop := 48 ≤ b.toNat ∧ b.toNat ≤ 57
theorem decD_split (n : Nat) (h : 10 ≤ n) : decDigits n = decDigits (n / 10) ++ [UInt8.ofNat (48 + n % 10)] := by
  rw [decDigits, dif_neg (by omega)]
theorem dg_nat (k : Nat) (h : k < 10) : (UInt8.ofNat (48 + k)).toNat = 48 + k := by rw [UInt8.toNat_ofNat']; omega
theorem decD_dig (n : Nat) : (∀ b ∈ decDigits n, isDg b) ∧ decDigits n ≠ [] := by
  induction n using Nat.strongRecOn with
  | _ n ih =>
    by_cases h : n < 10
    · rw [decDigits_one h]
      refine ⟨fun b hb => ?_, by simp⟩
      have hb : b = UInt8.ofNat (48 + n) := List.mem_singleton.1 hb
      rw [hb]; unfold isDg; rw [dg_nat n h]; omega
    · rw [decD_split n (by omega)]
      refine ⟨fun b hb => ?_, by simp⟩
      rcases List.mem_append.1 hb with hb | hb
      · exact (ih (n / 10) (by omega)).1 b hb
      · have hb : b = UInt8.ofNat (48 + n % 10) := List.mem_singleton.1 hb
        rw [hb]; unfold isDg; rw [dg_nat _ (by omega)]; omega

theorem parse_snoc (c : UInt8) (hc : isDg c) (v : Nat) (hv : v < 1844674407370955161) : ∀ (l : List UInt8) (acc : Nat), parseUint10 acc l = .ok v → parseUint10 acc (l ++ [c]) = .ok (v * 10 + (c.toNat - 48))
  | [], acc, h => by
    simp only [parseUint10] at h
    injection h with h
    subst h
    have hc' : 48 ≤ c.toNat ∧ c.toNat ≤ 57 := hc
    simp only [List.nil_append, parseUint10]
    rw [if_pos hc', if_neg (by omega), if_neg (by omega)]
  | d :: l, acc, h => by
    simp only [parseUint10] at h
    simp only [List.cons_append, parseUint10]
    split at h
    · rename_i h1
      rw [if_pos h1]
      split at h
      · cases h
      · rename_i h2
        rw [if_neg h2]
        split at h
        · cases h
        · rename_i h3
          rw [if_neg h3]
          exact parse_snoc c hc v hv l _ h
    · cases h
theorem parse_dec : ∀ n : Nat, n ≤ 9999999999 → parseUint10 0 (decDigits n) = .ok n := by
  intro n
  induction n using Nat.strongRecOn with
  | _ n ih =>
    intro hn
    by_cases h : n < 10
    · rw [decDigits_one h]
      have := parse_snoc (UInt8.ofNat (48 + n)) (by unfold isDg; rw [dg_nat n h]; omega) 0 (by omega) [] 0 rfl
      rw [List.nil_append, dg_nat n h] at this
      rw [this]; congr 1; omega
    · rw [decD_split n (by omega), parse_snoc _ (by unfold isDg; rw [dg_nat _ (by omega)]; omega) (n / 10) (by omega) _ 0 (ih (n / 10) (by omega) (by omega)), dg_nat _ (by omega)]
      congr 1; omega
/-- The number that a text tells, -1 if it tells none. -/
def rdNum (l : List UInt8) : Int := match atoiAll l with
  | .ok v => v
  | _ => -1
theorem rdNum_dec (n : Nat) (hn : n ≤ 9999999999) : rdNum (decDigits n) = n := by
  have h1 := parse_dec n hn
  obtain ⟨hd, hne⟩ := decD_dig n
  unfold rdNum atoiAll
  cases hl : decDigits n with
  | nil => exact absurd hl hne
  | cons c r =>
    have hc : isDg c := hd c (by rw [hl]; simp)
    unfold isDg at hc
    have h43 : ¬ (c.toNat = 43 ∨ c.toNat = 45) := by omega
    have h45 : ¬ c.toNat = 45 := by omega
    rw [hl] at h1
    have hp : parseMag (if c.toNat = 43 ∨ c.toNat = 45 then r else c :: r) = .ok n := by
      rw [if_neg h43]; unfold parseMag; rw [if_neg (by simp)]; exact h1
    simp only [hp]
    rw [if_neg (by omega), if_neg (by omega), if_neg h45]
theorem itoa_nat (n : Nat) : itoa (n : Int) = decDigits n := by unfold itoa; rw [if_neg (by omega)]; simp
theorem itoa_dig (n : Int) (h : 0 ≤ n) : (∀ b ∈ itoa n, isDg b) ∧ itoa n ≠ [] := by
  obtain ⟨k, rfl⟩ : ∃ k : Nat, n = k := ⟨n.toNat, by omega⟩
  rw [itoa_nat]; exact decD_dig k
theorem rdNum_itoa (n : Int) (h0 : 0 ≤ n) (h1 : n ≤ 9999999999) : rdNum (itoa n) = n := by
  obtain ⟨k, rfl⟩ : ∃ k : Nat, n = k := ⟨n.toNat, by omega⟩
  rw [itoa_nat, rdNum_dec k (by omega)]

/-- The loop of the reference's digits. -/
def dgLoop : List UInt8 → Nat → Option Nat
  | [], n => some n
  | c :: r, n => if c.toNat < 48 ∨ 57 < c.toNat ∨ 999999999 < n then none else dgLoop r (n * 10 + (c.toNat - 48))
theorem dgLoop_snoc (c : UInt8) (hc : isDg c) (v : Nat) (hv : v ≤ 999999999) : ∀ (l : List UInt8) (acc : Nat), dgLoop l acc = some v → dgLoop (l ++ [c]) acc = some (v * 10 + (c.toNat - 48))
  | [], acc, h => by
    simp only [dgLoop] at h
    injection h with h
    subst h
    have hc' : 48 ≤ c.toNat ∧ c.toNat ≤ 57 := hc
    simp only [List.nil_append, dgLoop]
    rw [if_neg (by omega)]
  | d :: l, acc, h => by
    simp only [dgLoop] at h
    simp only [List.cons_append, dgLoop]
    split at h
    · cases h
    · rename_i h1
      rw [if_neg h1]
      exact dgLoop_snoc c hc v hv l _ h
theorem dgLoop_dec : ∀ n : Nat, n ≤ 9999999999 → dgLoop (decDigits n) 0 = some n := by
  intro n
  induction n using Nat.strongRecOn with
  | _ n ih =>
    intro hn
    by_cases h : n < 10
    · rw [decDigits_one h]
      have := dgLoop_snoc (UInt8.ofNat (48 + n)) (by unfold isDg; rw [dg_nat n h]; omega) 0 (by omega) [] 0 rfl
      rw [List.nil_append, dg_nat n h] at this
      rw [this]; congr 1; omega
    · rw [decD_split n (by omega), dgLoop_snoc _ (by unfold isDg; rw [dg_nat _ (by omega)]; omega) (n / 10) (by omega) _ 0 (ih (n / 10) (by omega) (by omega)), dg_nat _ (by omega)]
      congr 1; omega
theorem dgLoop_lt : ∀ (l : List UInt8) (acc v : Nat), dgLoop l acc = some v → acc ≤ 9999999999 → v ≤ 9999999999
  | [], acc, v, h, ha => by simp only [dgLoop] at h; injection h with h; omega
  | d :: l, acc, v, h, ha => by
    simp only [dgLoop] at h
    split at h
    · cases h
    · have := d.toNat_lt
      exact dgLoop_lt l _ v h (by omega)
def dgs (l : List UInt8) : Int × Bool := match dgLoop l 0 with
  | none => (0, false)
  | some n => ((n : Int), !l.isEmpty && (itoa (n : Int) == l))
theorem dgs_itoa (n : Int) (h0 : 0 ≤ n) (h1 : n ≤ 9999999999) : dgs (itoa n) = (n, true) := by
  obtain ⟨k, rfl⟩ : ∃ k : Nat, n = k := ⟨n.toNat, by omega⟩
  have hne := (decD_dig k).2
  rw [itoa_nat]
  unfold dgs
  rw [dgLoop_dec k (by omega)]
  simp only [itoa_nat]
  have : (decDigits k).isEmpty = false := by cases h : decDigits k <;> simp_all
  simp [this]

theorem idx_none (c : UInt8) : ∀ a : List UInt8, c ∉ a → indexByte a c = -1
  | [], _ => rfl
  | b :: l, h => by
    have hb : (b == c) = false := by rw [beq_eq_false_iff_ne]; rintro rfl; exact h (by simp)
    have ih := idx_none c l (fun hh => h (by simp [hh]))
    simp [indexByte, hb, ih]
theorem idx_some (c : UInt8) (r : List UInt8) : ∀ a : List UInt8, c ∉ a → indexByte (a ++ c :: r) c = (a.length : Int)
  | [], _ => by simp [indexByte]
  | b :: l, h => by
    have hb : (b == c) = false := by rw [beq_eq_false_iff_ne]; rintro rfl; exact h (by simp)
    have ih := idx_some c r l (fun hh => h (by simp [hh]))
    simp only [List.cons_append, indexByte, hb, ih, Bool.false_eq_true, if_false]
    rw [if_neg (by rw [beq_iff_eq]; omega)]
    simp only [List.length_cons]
    omega
theorem cut_no (c : UInt8) (a : List UInt8) (h : c ∉ a) : cut a [c] = (a, [], false) := by
  unfold cut
  rw [index_one, idx_none c a h]
  rfl
theorem cut_yes (c : UInt8) (a r : List UInt8) (h : c ∉ a) : cut (a ++ c :: r) [c] = (a, r, true) := by
  unfold cut
  rw [index_one, idx_some c r a h, if_pos (by omega)]
  refine Prod.ext ?_ (Prod.ext ?_ rfl)
  · simp
  · simp only [Int.toNat_natCast, List.length_cons, List.length_nil]
    rw [show a ++ c :: r = (a ++ [c]) ++ r by simp, show a.length + (0 + 1) = (a ++ [c]).length by simp, List.drop_left]

/-- The text of an address. -/
def textA (a : Ad) : List UInt8 :=
  if a.k = 1 then itoa a.n else if a.k = 2 then [36] else if a.k = 3 then itoa a.n ++ 126 :: itoa a.m else if a.k = 4 then 47 :: (itoa a.n ++ [47])
  else if a.k = 5 then 43 :: itoa a.n else if a.k = 6 then 126 :: itoa a.n else []
def textB (b : Ad) : List UInt8 := if b.k = 0 then [] else 44 :: textA b
def textR (r : Rg) : List UInt8 := textA r.a ++ (textB r.b ++ if r.not then [33] else [])

/-- Which address the program reads, and the reference. -/
def rdA (s : List UInt8) : Ad :=
  if s = [] then ⟨0, 0, 0⟩ else if s = [36] then ⟨2, 0, 0⟩ else if s.head? = some 47 then ⟨4, rdNum (trimB s 47), 0⟩ else if s.head? = some 43 then ⟨5, rdNum (s.drop 1), 0⟩
  else if s.head? = some 126 then ⟨6, rdNum (s.drop 1), 0⟩ else if (cut s [126]).2.2 then ⟨3, rdNum (cut s [126]).1, rdNum (cut s [126]).2.1⟩ else ⟨1, rdNum s, 0⟩
def rdB (s : List UInt8) : Ad × Bool :=
  if s = [] then (⟨0, 0, 0⟩, true) else if s = [36] then (⟨2, 0, 0⟩, true) else if (dgs s).2 then (⟨1, (dgs s).1, 0⟩, true)
  else if s.head? = some 43 then (⟨5, (dgs (s.drop 1)).1, 0⟩, (dgs (s.drop 1)).2) else if s.head? = some 126 then (⟨6, (dgs (s.drop 1)).1, 0⟩, (dgs (s.drop 1)).2)
  else if s.head? = some 47 then (⟨4, (dgs ((s.drop 1).take (s.length - 2))).1, 0⟩, (dgs ((s.drop 1).take (s.length - 2))).2 && decide (s.getLast? = some 47))
  else if (cut s [126]).2.2 then (⟨3, (dgs (cut s [126]).1).1, (dgs (cut s [126]).2.1).1⟩, (dgs (cut s [126]).1).2 && (dgs (cut s [126]).2.1).2) else (⟨0, 0, 0⟩, false)

theorem not_dg {c : UInt8} {l : List UInt8} (h : ∀ b ∈ l, isDg b) (hc : ¬ isDg c) : c ∉ l := fun hm => hc (h c hm)
theorem not_num : ¬ isDg 36 ∧ ¬ isDg 43 ∧ ¬ isDg 44 ∧ ¬ isDg 47 ∧ ¬ isDg 126 ∧ ¬ isDg 33 := by unfold isDg; decide
theorem dgs_bad (c : UInt8) (r : List UInt8) (h : ¬ isDg c) : (dgs (c :: r)).2 = false := by
  unfold dgs
  have : dgLoop (c :: r) 0 = none := by
    simp only [dgLoop]
    unfold isDg at h
    rw [if_pos (by omega)]
  rw [this]
/-- A byte that is none of a numeral's, behind some of a numeral: no number. -/
theorem dgLoop_bad (c : UInt8) (r : List UInt8) (h : ¬ isDg c) : ∀ (l : List UInt8) (acc : Nat), dgLoop (l ++ c :: r) acc = none
  | [], acc => by
    simp only [List.nil_append, dgLoop]
    unfold isDg at h
    rw [if_pos (by omega)]
  | d :: l, acc => by
    simp only [List.cons_append, dgLoop]
    split
    · rfl
    · exact dgLoop_bad c r h l _
theorem trimB_num (l : List UInt8) (h : 47 ∉ l) : trimB (47 :: (l ++ [47])) 47 = l := by
  have hr : ∀ m : List UInt8, 47 ∉ m → List.dropWhile (· == (47 : UInt8)) m = m := by
    intro m hm
    cases m with
    | nil => rfl
    | cons b m =>
      have hb : (b == (47 : UInt8)) = false := by rw [beq_eq_false_iff_ne]; rintro rfl; exact hm (by simp)
      rw [List.dropWhile_cons, hb]; rfl
  unfold trimB trimLeftB trimRightB
  have e : (47 :: (l ++ [47])).reverse = 47 :: (l.reverse ++ [47]) := by simp
  rw [e, List.dropWhile_cons]
  simp only [beq_self_eq_true, if_true]
  by_cases hl : l = []
  · subst hl; decide
  · have e2 : (l.reverse ++ [47]).dropWhile (· == (47 : UInt8)) = l.reverse ++ [47] := by
      cases hh : l.reverse with
      | nil => exact absurd (by simpa using hh) hl
      | cons b m =>
        have hb : (b == (47 : UInt8)) = false := by
          rw [beq_eq_false_iff_ne]; rintro rfl
          exact h (by rw [← List.mem_reverse, hh]; simp)
        rw [List.cons_append, List.dropWhile_cons, hb]; rfl
    rw [e2]
    simp only [List.reverse_append, List.reverse_cons, List.reverse_nil, List.nil_append, List.reverse_reverse, List.cons_append, List.dropWhile_cons, beq_self_eq_true, if_true]
    exact hr l h

theorem head_num {n : Int} (h : 0 ≤ n) {r : List UInt8} {c : UInt8} (hc : ¬ isDg c) : (itoa n ++ r).head? ≠ some c := by
  obtain ⟨hd, hne⟩ := itoa_dig n h
  cases hl : itoa n with
  | nil => exact absurd hl hne
  | cons b l =>
    intro hh
    simp only [List.cons_append, List.head?_cons] at hh
    injection hh with hh
    exact hc (hh ▸ hd b (by rw [hl]; simp))
theorem num_ne {n : Int} (h : 0 ≤ n) (r : List UInt8) : itoa n ++ r ≠ [] := by
  intro hh
  exact (itoa_dig n h).2 (List.append_eq_nil_iff.1 hh).1
theorem num_ne36 {n : Int} (h : 0 ≤ n) (r : List UInt8) : itoa n ++ r ≠ [36] := by
  intro hh
  have := head_num h (r := r) not_num.1
  rw [hh] at this
  simp at this

/-- What is told of an address is read as it, by both. -/
theorem rdA_text {a : Ad} (h : isAd a = true) : rdA (textA a) = a := by
  obtain ⟨k, n, m⟩ := a
  have hn := isAd.nums h
  obtain ⟨k0, k6, n0, n9, m0, m9⟩ := hn
  simp only at k0 k6 n0 n9 m0 m9
  have h' := isAd_iff.1 h
  simp only at h'
  obtain ⟨q36, q43, q44, q47, q126, q33⟩ := not_num
  obtain ⟨hd, hne⟩ := itoa_dig n n0
  rcases (by omega : k = 0 ∨ k = 1 ∨ k = 2 ∨ k = 3 ∨ k = 4 ∨ k = 5 ∨ k = 6) with rfl | rfl | rfl | rfl | rfl | rfl | rfl
  · obtain ⟨rfl, rfl⟩ : n = 0 ∧ m = 0 := by omega
    rfl
  · obtain rfl : m = 0 := by omega
    have e : textA ⟨1, n, 0⟩ = itoa n ++ [] := by simp [textA]
    rw [e]
    unfold rdA
    rw [if_neg (num_ne n0 _), if_neg (num_ne36 n0 _), if_neg (head_num n0 q47), if_neg (head_num n0 q43), if_neg (head_num n0 q126), List.append_nil, cut_no 126 _ (not_dg hd q126), rdNum_itoa n n0 (by omega)]
    rfl
  · obtain ⟨rfl, rfl⟩ : n = 0 ∧ m = 0 := by omega
    rfl
  · have e : textA ⟨3, n, m⟩ = itoa n ++ 126 :: itoa m := by simp [textA]
    rw [e]
    unfold rdA
    rw [if_neg (num_ne n0 _), if_neg (num_ne36 n0 _), if_neg (head_num n0 q47), if_neg (head_num n0 q43), if_neg (head_num n0 q126), cut_yes 126 _ _ (not_dg hd q126)]
    simp only [if_true]
    rw [rdNum_itoa n n0 (by omega), rdNum_itoa m m0 (by omega)]
  · obtain rfl : m = 0 := by omega
    have e : textA ⟨4, n, 0⟩ = 47 :: (itoa n ++ [47]) := by simp [textA]
    rw [e]
    unfold rdA
    rw [if_neg (by simp), if_neg (by simp), if_pos (by simp), trimB_num _ (not_dg hd q47), rdNum_itoa n n0 (by omega)]
  · obtain rfl : m = 0 := by omega
    have e : textA ⟨5, n, 0⟩ = 43 :: itoa n := by simp [textA]
    rw [e]
    unfold rdA
    rw [if_neg (by simp), if_neg (by simp), if_neg (by simp), if_pos (by simp)]
    simp only [List.drop_succ_cons, List.drop_zero]
    rw [rdNum_itoa n n0 (by omega)]
  · obtain rfl : m = 0 := by omega
    have e : textA ⟨6, n, 0⟩ = 126 :: itoa n := by simp [textA]
    rw [e]
    unfold rdA
    rw [if_neg (by simp), if_neg (by simp), if_neg (by simp), if_neg (by simp), if_pos (by simp)]
    simp only [List.drop_succ_cons, List.drop_zero]
    rw [rdNum_itoa n n0 (by omega)]
theorem rdB_text {a : Ad} (h : isAd a = true) : rdB (textA a) = (a, true) := by
  obtain ⟨k, n, m⟩ := a
  have hn := isAd.nums h
  obtain ⟨k0, k6, n0, n9, m0, m9⟩ := hn
  simp only at k0 k6 n0 n9 m0 m9
  have h' := isAd_iff.1 h
  simp only at h'
  obtain ⟨q36, q43, q44, q47, q126, q33⟩ := not_num
  obtain ⟨hd, hne⟩ := itoa_dig n n0
  rcases (by omega : k = 0 ∨ k = 1 ∨ k = 2 ∨ k = 3 ∨ k = 4 ∨ k = 5 ∨ k = 6) with rfl | rfl | rfl | rfl | rfl | rfl | rfl
  · obtain ⟨rfl, rfl⟩ : n = 0 ∧ m = 0 := by omega
    rfl
  · obtain rfl : m = 0 := by omega
    have e : textA ⟨1, n, 0⟩ = itoa n ++ [] := by simp [textA]
    rw [e]
    unfold rdB
    rw [if_neg (num_ne n0 _), if_neg (num_ne36 n0 _), List.append_nil, dgs_itoa n n0 (by omega)]
    rfl
  · obtain ⟨rfl, rfl⟩ : n = 0 ∧ m = 0 := by omega
    rfl
  · have e : textA ⟨3, n, m⟩ = itoa n ++ 126 :: itoa m := by simp [textA]
    rw [e]
    have hb : (dgs (itoa n ++ 126 :: itoa m)).2 = false := by unfold dgs; rw [dgLoop_bad 126 _ q126]
    unfold rdB
    rw [if_neg (num_ne n0 _), if_neg (num_ne36 n0 _), hb, if_neg (by simp), if_neg (head_num n0 q43), if_neg (head_num n0 q126), if_neg (head_num n0 q47), cut_yes 126 _ _ (not_dg hd q126)]
    simp only [if_true]
    rw [dgs_itoa n n0 (by omega), dgs_itoa m m0 (by omega)]
    rfl
  · obtain rfl : m = 0 := by omega
    have e : textA ⟨4, n, 0⟩ = 47 :: (itoa n ++ [47]) := by simp [textA]
    rw [e]
    unfold rdB
    rw [if_neg (by simp), if_neg (by simp), dgs_bad _ _ q47, if_neg (by simp), if_neg (by simp), if_neg (by simp), if_pos (by simp)]
    have e2 : ((47 :: (itoa n ++ [47])).drop 1).take ((47 :: (itoa n ++ [47])).length - 2) = itoa n := by
      simp only [List.drop_succ_cons, List.drop_zero, List.length_cons, List.length_append, List.length_nil]
      rw [show (itoa n).length + (0 + 1) + 1 - 2 = (itoa n).length by omega, List.take_left]
    rw [e2, dgs_itoa n n0 (by omega)]
    simp [List.getLast?_cons]
  · obtain rfl : m = 0 := by omega
    have e : textA ⟨5, n, 0⟩ = 43 :: itoa n := by simp [textA]
    rw [e]
    unfold rdB
    rw [if_neg (by simp), if_neg (by simp), dgs_bad _ _ q43, if_neg (by simp), if_pos (by simp)]
    simp only [List.drop_succ_cons, List.drop_zero]
    rw [dgs_itoa n n0 (by omega)]
  · obtain rfl : m = 0 := by omega
    have e : textA ⟨6, n, 0⟩ = 126 :: itoa n := by simp [textA]
    rw [e]
    unfold rdB
    rw [if_neg (by simp), if_neg (by simp), dgs_bad _ _ q126, if_neg (by simp), if_neg (by simp), if_pos (by simp)]
    simp only [List.drop_succ_cons, List.drop_zero]
    rw [dgs_itoa n n0 (by omega)]

/-- No comma and no mark stands in the text of an address. -/
theorem textA_clean {a : Ad} (h : isAd a = true) (c : UInt8) (hc : c = 44 ∨ c = 33) : c ∉ textA a := by
  obtain ⟨k0, k6, n0, n9, m0, m9⟩ := isAd.nums h
  obtain ⟨q36, q43, q44, q47, q126, q33⟩ := not_num
  have hd := (itoa_dig a.n n0).1
  have hm := (itoa_dig a.m m0).1
  have hq : ¬ isDg c := by rcases hc with rfl | rfl <;> assumption
  have hn1 := not_dg hd hq
  have hn2 := not_dg hm hq
  unfold textA
  split
  · exact hn1
  split
  · rcases hc with rfl | rfl <;> decide
  split
  · simp only [List.mem_append, List.mem_cons, hn1, hn2, false_or, or_false]; rcases hc with rfl | rfl <;> decide
  split
  · simp only [List.mem_append, List.mem_cons, hn1, false_or, or_false, List.not_mem_nil]; rcases hc with rfl | rfl <;> decide
  split
  · simp only [List.mem_cons, hn1, or_false]; rcases hc with rfl | rfl <;> decide
  split
  · simp only [List.mem_cons, hn1, or_false]; rcases hc with rfl | rfl <;> decide
  · simp

theorem suffix_yes (l : List UInt8) (c : UInt8) : hasSuffix (l ++ [c]) [c] = true ∧ trimSuffix (l ++ [c]) [c] = l := by
  have h : hasSuffix (l ++ [c]) [c] = true := by unfold hasSuffix; simp
  refine ⟨h, ?_⟩
  unfold trimSuffix
  rw [h]
  simp
theorem suffix_no (l : List UInt8) (c : UInt8) (hc : c ∉ l) : hasSuffix l [c] = false ∧ trimSuffix l [c] = l := by
  have h : hasSuffix l [c] = false := by
    unfold hasSuffix
    rw [Bool.eq_false_iff]
    intro hh
    obtain ⟨t, ht⟩ := List.isSuffixOf_iff_suffix.1 hh
    exact hc (by rw [← ht]; simp)
  refine ⟨h, ?_⟩
  unfold trimSuffix
  rw [h]
  simp
def cutsR (s : List UInt8) : List UInt8 × List UInt8 × Bool := ((cut (trimSuffix s [33]) [44]).1, (cut (trimSuffix s [33]) [44]).2.1, hasSuffix s [33])
theorem cuts_text {r : Rg} (h : mayR r = true) : cutsR (textR r) = (textA r.a, if r.b.k = 0 then [] else textA r.b, r.not) := by
  obtain ⟨ha, hb, _⟩ := mayR_iff.1 h
  have hc : (33 : UInt8) ∉ textA r.a ++ textB r.b := by
    rw [List.mem_append]
    rintro (hh | hh)
    · exact textA_clean ha 33 (Or.inr rfl) hh
    · unfold textB at hh
      split at hh
      · simp at hh
      · rcases List.mem_cons.1 hh with hh | hh
        · exact absurd hh (by decide)
        · exact textA_clean hb 33 (Or.inr rfl) hh
  have e1 : hasSuffix (textR r) [33] = r.not ∧ trimSuffix (textR r) [33] = textA r.a ++ textB r.b := by
    unfold textR
    cases r.not
    · simp only [Bool.false_eq_true, if_false, List.append_nil]; exact suffix_no _ 33 hc
    · simp only [if_true, ← List.append_assoc]; exact suffix_yes _ 33
  have e2 : cut (textA r.a ++ textB r.b) [44] = (textA r.a, (if r.b.k = 0 then [] else textA r.b), !decide (r.b.k = 0)) := by
    unfold textB
    by_cases hk : r.b.k = 0
    · rw [if_pos hk, if_pos hk, List.append_nil, cut_no 44 _ (textA_clean ha 44 (Or.inl rfl))]
      simp [hk]
    · rw [if_neg hk, if_neg hk, cut_yes 44 _ _ (textA_clean ha 44 (Or.inl rfl))]
      simp [hk]
  unfold cutsR
  rw [e1.1, e1.2, e2]
/-- The range that the program reads; that the reference reads, and whether it does. -/
def rdR (s : List UInt8) : Rg := ⟨rdA (cutsR s).1, rdA (cutsR s).2.1, (cutsR s).2.2⟩
def rdQ (s : List UInt8) : Rg := ⟨(rdB (cutsR s).1).1, (rdB (cutsR s).2.1).1, (cutsR s).2.2⟩
theorem rdR_text {r : Rg} (h : mayR r = true) : rdR (textR r) = r := by
  obtain ⟨ha, hb, _⟩ := mayR_iff.1 h
  unfold rdR
  rw [cuts_text h]
  refine Rg.eq (rdA_text ha) ?_ rfl
  simp only
  by_cases hk : r.b.k = 0
  · rw [if_pos hk]
    have := isAd_iff.1 hb
    exact Ad.eq (by rw [hk]; rfl) (by show (0 : Int) = _; omega) (by show (0 : Int) = _; omega)
  · rw [if_neg hk]; exact rdA_text hb
theorem rdQ_text {r : Rg} (h : mayR r = true) : rdQ (textR r) = r ∧ (rdB (cutsR (textR r)).1).2 = true ∧ (rdB (cutsR (textR r)).2.1).2 = true := by
  obtain ⟨ha, hb, _⟩ := mayR_iff.1 h
  unfold rdQ
  rw [cuts_text h]
  simp only
  rw [rdB_text ha]
  by_cases hk : r.b.k = 0
  · rw [if_pos hk]
    have := isAd_iff.1 hb
    refine ⟨Rg.eq rfl (Ad.eq ?_ ?_ ?_) rfl, rfl, rfl⟩
    · rw [hk]; rfl
    · show (0 : Int) = _; omega
    · show (0 : Int) = _; omega
  · rw [if_neg hk, rdB_text hb]; exact ⟨rfl, rfl, rfl⟩
def zeroR : Rg := ⟨⟨0, 0, 0⟩, ⟨0, 0, 0⟩, false⟩
/-- What Parse answers. -/
def parR (s : List UInt8) : Rg × Int := if mayR (rdR s) = true ∧ textR (rdR s) = s then (rdR s, 0) else (zeroR, 121)
def parQ (s : List UInt8) : Rg × Int :=
  if ((rdB (cutsR s).1).2 = true ∧ (rdB (cutsR s).2.1).2 = true) ∧ mayR (rdQ s) = true ∧ textR (rdQ s) = s then (rdQ s, 0) else (zeroR, 121)
theorem par_text {r : Rg} (h : mayR r = true) : parR (textR r) = (r, 0) := by
  unfold parR
  rw [rdR_text h, if_pos ⟨h, rfl⟩]
theorem par_same (s : List UInt8) : parQ s = parR s := by
  unfold parR parQ
  by_cases h : mayR (rdR s) = true ∧ textR (rdR s) = s
  · rw [if_pos h]
    have := rdQ_text h.1
    rw [h.2] at this
    rw [this.1, if_pos ⟨this.2, h⟩]
  · rw [if_neg h, if_neg]
    rintro ⟨_, h2⟩
    have := rdR_text h2.1
    rw [h2.2] at this
    rw [this] at h
    exact h h2
theorem itoa_len (n : Int) (h0 : 0 ≤ n) (h1 : n ≤ 9999999999) : (itoa n).length ≤ 11 := by
  have : ∀ (j : Nat) (n : Nat), n < 10 ^ (j + 1) → (decDigits n).length ≤ j + 1 := by
    intro j
    induction j with
    | zero => intro n h; rw [decDigits_one (by simpa using h)]; simp
    | succ j ih =>
      intro n h
      by_cases h2 : n < 10
      · rw [decDigits_one h2]; simp
      · rw [decD_split n (by omega), List.length_append]
        have : 10 ^ (j + 1 + 1) = 10 ^ (j + 1) * 10 := Nat.pow_succ ..
        have := ih (n / 10) (by omega)
        simp only [List.length_cons, List.length_nil]
        omega
  obtain ⟨k, rfl⟩ : ∃ k : Nat, n = k := ⟨n.toNat, by omega⟩
  rw [itoa_nat]
  have := this 10 k (by omega)
  omega

end Go.Proofs.YtaamhjjdhebjfaaGreatDoor
