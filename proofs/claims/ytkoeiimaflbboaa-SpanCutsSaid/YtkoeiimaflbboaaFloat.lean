/- Plain facts on double words: which whole number a word reads as, how two such words are ordered, what truncation, conversion and addition make of them. No program is named here. -/
import Derived.Laws.Cover2
import Derived.Laws.FloatArith
namespace Go.Proofs.Ytkoeiimaflbboaa.Fl
open Ieee
set_option linter.unusedVariables false

/-- The least unit is 2 to the -1074th. -/
def K : Nat := 1074
theorem K_eq : K = 1074 := rfl
/-- How many least units go into one. -/
def unit : Nat := 2 ^ K

theorem unit_pos : 0 < unit := Nat.pow_pos (by decide)

theorem unit_posI : (0 : Int) < (unit : Int) := Int.natCast_pos.2 unit_pos

theorem signed_eq (s : Bool) (m k : Nat) : signed s m k = (if s then -1 else 1) * (m : Int) * 2 ^ k := by
  unfold signed
  cases s <;> simp [Nat.shiftLeft_eq, Int.natCast_mul, Int.natCast_pow, Int.neg_mul]

theorem signed_add (s : Bool) (m k l : Nat) : signed s m (k + l) = signed s m k * 2 ^ l := by
  rw [signed_eq, signed_eq, Int.pow_add]; simp only [Int.mul_assoc]

/-- A number in least units. -/
def dun : Datum → Option Int
  | .number s m p => some (signed s m (p + 1074).toNat)
  | _ => none

/-- A word in least units: none, if it is no finite number. -/
def un (x : Nat) : Option Int := dun (double.read x)

theorem least_eq : double.leastPlace = -1074 := by decide
theorem binade_eq : double.binade = 2 ^ 52 := rfl
theorem infRung_eq : double.infRung = 2047 * 2 ^ 52 := by decide
theorem signWeight_eq : double.signWeight = 2 ^ 63 := by decide

theorem read_place {x : Nat} {s : Bool} {m : Nat} {p : Int} (h : double.read x = .number s m p) : -1074 ≤ p := by
  unfold Format.read at h
  simp only [least_eq] at h
  split at h
  · injection h with _ _ h; omega
  · split at h
    · injection h with _ _ h; omega
    · split at h <;> cases h

theorem cmp_mul (a b c : Int) (hc : 0 < c) : compare (a * c) (b * c) = compare a b := by
  rcases Int.lt_trichotomy a b with h | h | h
  · rw [Int.compare_eq_lt.2 h, Int.compare_eq_lt.2 (Int.mul_lt_mul_of_pos_right h hc)]
  · subst h; simp
  · rw [Int.compare_eq_gt.2 h, Int.compare_eq_gt.2 (Int.mul_lt_mul_of_pos_right h hc)]

theorem order_numbers (s : Bool) (m : Nat) (i : Int) (t : Bool) (n : Nat) (j : Int) (hi : -1074 ≤ i) (hj : -1074 ≤ j) :
    Datum.order (.number s m i) (.number t n j) = some (compare (signed s m (i + 1074).toNat) (signed t n (j + 1074).toNat)) := by
  have e1 : (i + 1074).toNat = (i - min i j).toNat + (min i j + 1074).toNat := by omega
  have e2 : (j + 1074).toNat = (j - min i j).toNat + (min i j + 1074).toNat := by omega
  rw [e1, e2, signed_add, signed_add, cmp_mul _ _ _ (Int.pow_pos (by decide))]
  rfl

theorem un_some {x : Nat} {u : Int} (h : un x = some u) : ∃ s m p, double.read x = .number s m p ∧ -1074 ≤ p ∧ signed s m (p + 1074).toNat = u := by
  unfold un at h
  cases hr : double.read x with
  | number s m p => rw [hr] at h; exact ⟨s, m, p, rfl, read_place hr, by simpa [dun] using h⟩
  | infinity s => rw [hr] at h; cases h
  | nan s f => rw [hr] at h; cases h

/-- Two numbers are ordered as their units are. -/
theorem order_un {x y : Nat} {u v : Int} (hx : un x = some u) (hy : un y = some v) : double.order x y = some (compare u v) := by
  obtain ⟨s, m, p, hr, hp, rfl⟩ := un_some hx
  obtain ⟨t, n, q, hq, hp2, rfl⟩ := un_some hy
  unfold Format.order
  rw [hr, hq, order_numbers _ _ _ _ _ _ hp hp2]

theorem log2_shift {n : Nat} (hn : n ≠ 0) (k : Nat) : (n * 2 ^ k).log2 = n.log2 + k := by
  have hp : 0 < 2 ^ k := Nat.pow_pos (by decide)
  have hne : n * 2 ^ k ≠ 0 := Nat.mul_ne_zero hn (Nat.ne_of_gt hp)
  apply (Nat.log2_eq_iff hne).2
  constructor
  · rw [Nat.pow_add]; exact Nat.mul_le_mul_right _ (Nat.log2_self_le hn)
  · have : n.log2 + k + 1 = (n.log2 + 1) + k := by omega
    rw [this, Nat.pow_add]; exact Nat.mul_lt_mul_of_pos_right Nat.lt_log2_self hp

theorem cut_exact (s : Bool) (n drop : Nat) : Toward.even.cut s (n <<< drop) drop = n := by
  unfold Toward.cut
  by_cases hn : n = 0
  · subst hn
    simp
  · have hl : (n <<< drop).log2 = n.log2 + drop := by
      rw [Nat.shiftLeft_eq]
      exact log2_shift hn drop
    have hm : min drop ((n <<< drop).log2 + 2) = drop := by rw [hl]; omega
    have hg : 1 <<< drop = 2 ^ drop := by rw [Nat.shiftLeft_eq, Nat.one_mul]
    have hp : 0 < 2 ^ drop := Nat.pow_pos (by decide)
    simp only [hm, hg]
    rw [Nat.shiftLeft_eq, Nat.mul_div_cancel _ hp, Nat.mul_mod_left]
    have : (2 ^ drop == 0) = false := by simp
    simp [this]

theorem read_word (s : Bool) (r : Nat) (h : r < 2 ^ 63) (h0 : 2 ^ 52 ≤ r) (h1 : r < 2047 * 2 ^ 52) :
    double.read (double.word s r) = .number s (2 ^ 52 + r % 2 ^ 52) (-1074 + (r / 2 ^ 52 - 1 : Nat)) := by
  have hw : double.word s r / 2 ^ 63 % 2 = (if s then 1 else 0) ∧ double.word s r % 2 ^ 63 = r := by
    unfold Format.word
    rw [signWeight_eq]
    cases s
    · simp; omega
    · simp; omega
  unfold Format.read
  simp only [signWeight_eq, hw.1, hw.2, binade_eq, infRung_eq, least_eq]
  rw [if_neg (by omega), if_pos h1]
  cases s <;> rfl

theorem read_zero (s : Bool) : double.read (double.word s 0) = .number s 0 (-1074) := by
  cases s <;> decide +kernel

theorem place_fact (e : Nat) : (-1074 + (e : Int) + 1074).toNat = e := by omega

theorem rung_facts (kept e : Nat) (hl : 2 ^ 52 ≤ kept) (hh : kept < 2 ^ 53) (he : e ≤ 52) :
    min ((e + 1022) * 2 ^ 52 + kept) (2047 * 2 ^ 52) = (e + 1022) * 2 ^ 52 + kept ∧ (e + 1022) * 2 ^ 52 + kept < 2 ^ 63
    ∧ 2 ^ 52 ≤ (e + 1022) * 2 ^ 52 + kept ∧ (e + 1022) * 2 ^ 52 + kept < 2047 * 2 ^ 52
    ∧ 2 ^ 52 + ((e + 1022) * 2 ^ 52 + kept) % 2 ^ 52 = kept ∧ ((e + 1022) * 2 ^ 52 + kept) / 2 ^ 52 - 1 = e + 1022 := by
  refine ⟨?_, ?_, ?_, ?_, ?_, ?_⟩ <;> omega

/-- WHAT A WHOLE NUMBER BELOW 2^53 IS WRITTEN AS READS AS THAT NUMBER. -/
theorem write_whole (s : Bool) (m : Nat) (p : Int) (n : Nat) (hn : n < 2 ^ 53) (h : m <<< p.toNat = n <<< (-p).toNat) :
    un (double.write (.number s m p)) = some (signed s n K) := by
  have hpow : ∀ k : Nat, 0 < 2 ^ k := fun k => Nat.pow_pos (by decide)
  unfold un Format.write Format.nearest
  by_cases hm : m = 0
  · subst hm
    have hn0 : n = 0 := by
      rw [Nat.zero_shiftLeft] at h
      rw [Nat.shiftLeft_eq] at h
      rcases Nat.mul_eq_zero.1 h.symm with h | h
      · exact h
      · exact absurd h (Nat.ne_of_gt (hpow _))
    subst hn0
    show dun (double.read (if (0 : Nat) = 0 then double.word s 0 else _)) = _
    rw [if_pos rfl, read_zero]
    show some (signed s 0 (-1074 + 1074 : Int).toNat) = some (signed s 0 K)
    cases s <;> simp [signed]
  · have hn0 : n ≠ 0 := by
      intro h0
      subst h0
      rw [Nat.zero_shiftLeft, Nat.shiftLeft_eq] at h
      rcases Nat.mul_eq_zero.1 h with h | h
      · exact hm h
      · exact absurd h (Nat.ne_of_gt (hpow _))
    simp only [if_neg hm]
    have hlog : (m.log2 : Int) + p = n.log2 := by
      have := congrArg Nat.log2 h
      rw [Nat.shiftLeft_eq, Nat.shiftLeft_eq, log2_shift hm, log2_shift hn0] at this
      omega
    have he : n.log2 ≤ 52 := by
      have := (Nat.log2_lt hn0).2 hn
      omega
    have hlo : 2 ^ n.log2 ≤ n := Nat.log2_self_le hn0
    have hhi : n < 2 ^ (n.log2 + 1) := Nat.lt_log2_self
    generalize hE : n.log2 = e at *
    have hlast : max (p + m.log2 - double.fractionBits) double.leastPlace = (e : Int) - 52 := by
      rw [least_eq, show double.fractionBits = 52 from rfl]; omega
    simp only [hlast]
    have hmag : m <<< (p - ((e : Int) - 52)).toNat = (n <<< (52 - e)) <<< ((e : Int) - 52 - p).toNat := by
      rw [Nat.shiftLeft_eq, Nat.shiftLeft_eq] at h
      simp only [Nat.shiftLeft_eq]
      by_cases h1 : 0 ≤ p
      · have a1 : (-p).toNat = 0 := by omega
        have a2 : (p - ((e : Int) - 52)).toNat = p.toNat + (52 - e) := by omega
        have a3 : ((e : Int) - 52 - p).toNat = 0 := by omega
        rw [a1, Nat.pow_zero, Nat.mul_one] at h
        rw [a2, a3, Nat.pow_add, Nat.pow_zero, Nat.mul_one, ← Nat.mul_assoc, h]
      · have a1 : p.toNat = 0 := by omega
        rw [a1, Nat.pow_zero, Nat.mul_one] at h
        subst h
        by_cases h2 : (e : Int) - 52 ≤ p
        · have a3 : ((e : Int) - 52 - p).toNat = 0 := by omega
          have a4 : 52 - e = (-p).toNat + (p - ((e : Int) - 52)).toNat := by omega
          rw [a3, a4, Nat.pow_zero, Nat.mul_one, Nat.pow_add, Nat.mul_assoc]
        · have a3 : (p - ((e : Int) - 52)).toNat = 0 := by omega
          have a4 : (-p).toNat = (52 - e) + ((e : Int) - 52 - p).toNat := by omega
          rw [a3, a4, Nat.pow_zero, Nat.mul_one, Nat.pow_add, Nat.mul_assoc]
    rw [hmag, cut_exact]
    have hk : n <<< (52 - e) = n * 2 ^ (52 - e) := Nat.shiftLeft_eq ..
    rw [hk]
    have hkl : 2 ^ 52 ≤ n * 2 ^ (52 - e) := by
      have : 2 ^ 52 = 2 ^ e * 2 ^ (52 - e) := by rw [← Nat.pow_add]; congr 1; omega
      rw [this]
      exact Nat.mul_le_mul_right _ hlo
    have hkh : n * 2 ^ (52 - e) < 2 ^ 53 := by
      have : 2 ^ 53 = 2 ^ (e + 1) * 2 ^ (52 - e) := by rw [← Nat.pow_add]; congr 1; omega
      rw [this]
      exact Nat.mul_lt_mul_of_pos_right hhi (hpow _)
    have hval : n * 2 ^ (52 - e) * 2 ^ (e + 1022) = n * 2 ^ K := by
      have e3 : 52 - e + (e + 1022) = K := by have := K_eq; omega
      rw [Nat.mul_assoc, ← Nat.pow_add, e3]
    generalize n * 2 ^ (52 - e) = kept at *
    have hr0 : ((e : Int) - 52 - double.leastPlace).toNat = e + 1022 := by rw [least_eq]; omega
    rw [hr0, binade_eq, infRung_eq]
    obtain ⟨hmin, c1, c2, c3, b1, b2⟩ := rung_facts kept e hkl hkh he
    rw [hmin, read_word _ _ c1 c2 c3]
    rw [b1, b2]
    have b3 : (-1074 + ((e + 1022 : Nat) : Int) + 1074).toNat = e + 1022 := place_fact _
    show some (signed s kept (-1074 + ((e + 1022 : Nat) : Int) + 1074).toNat) = _
    rw [b3]
    unfold signed
    rw [Nat.shiftLeft_eq, Nat.shiftLeft_eq, hval]

theorem unitI : (unit : Int) = 2 ^ K := by unfold unit; rw [Int.natCast_pow]; rfl

theorem signed_unit (s : Bool) (n : Nat) : signed s n K = (if s then -(n : Int) else n) * unit := by
  rw [signed_eq, unitI]
  cases s <;> simp

/-- AN INTEGER BELOW 2^53 AS A FLOAT READS AS THAT INTEGER. -/
theorem un_floatOfInt (n : Int) (h : n.natAbs < 2 ^ 53) : un (floatOfInt .f64 n) = some (n * unit) := by
  have := write_whole (n < 0) n.natAbs 0 n.natAbs h (by simp)
  rw [signed_unit] at this
  refine Eq.trans this ?_
  congr 2
  by_cases h0 : n < 0
  · simp [h0]; omega
  · simp [h0]; omega

/-- The units that are left of a number which is cut towards zero. -/
theorem un_trunc {x : Nat} {u : Int} (h : un x = some u) (h0 : 0 ≤ u) (h1 : u < ((2 ^ 53 : Nat) : Int) * unit) :
    un (double.write ((double.read x).integral .zero)) = some (u / unit * unit) ∧ (double.read x).toInt .zero = some (u / unit) := by
  obtain ⟨s, m, p, hr, hp, rfl⟩ := un_some h
  rw [hr]
  -- the whole part, as a natural number
  have hpow : ∀ k : Nat, 0 < 2 ^ k := fun k => Nat.pow_pos (by decide)
  have hcut : Toward.zero.cut s (m <<< p.toNat) (-p).toNat = m <<< p.toNat / 2 ^ (-p).toNat := by
    unfold Toward.cut
    simp only [Bool.toNat_false, Nat.add_zero]
    have hg : ∀ k, 1 <<< k = 2 ^ k := fun k => by rw [Nat.shiftLeft_eq, Nat.one_mul]
    rw [hg]
    by_cases hd : (-p).toNat ≤ (m <<< p.toNat).log2 + 2
    · rw [Nat.min_eq_left hd]
    · have hp0 : p.toNat = 0 := by omega
      rw [hp0] at hd ⊢
      have hm0 : m <<< 0 = m := rfl
      rw [hm0] at hd ⊢
      have hlt : m < 2 ^ (m.log2 + 1) := Nat.lt_log2_self
      have e1 : m / 2 ^ min (-p).toNat (m.log2 + 2) = 0 := by
        apply Nat.div_eq_of_lt
        rw [Nat.min_eq_right (by omega)]
        exact Nat.lt_of_lt_of_le hlt (Nat.pow_le_pow_right (by decide) (by omega))
      have e2 : m / 2 ^ (-p).toNat = 0 := by
        apply Nat.div_eq_of_lt
        exact Nat.lt_of_lt_of_le hlt (Nat.pow_le_pow_right (by decide) (by omega))
      rw [e1, e2]
  generalize hq : m <<< p.toNat / 2 ^ (-p).toNat = q at hcut
  -- the units: m shifted
  have hw : m <<< (p + 1074).toNat / unit = q := by
    rw [← hq]
    unfold unit
    simp only [Nat.shiftLeft_eq]
    by_cases h2 : 0 ≤ p
    · have a1 : (p + 1074).toNat = p.toNat + K := by have := K_eq; omega
      have a2 : (-p).toNat = 0 := by omega
      rw [a1, a2, Nat.pow_add, ← Nat.mul_assoc, Nat.mul_div_cancel _ (hpow _), Nat.pow_zero, Nat.div_one]
    · have a1 : p.toNat = 0 := by omega
      have a2 : K = (-p).toNat + (p + 1074).toNat := by have := K_eq; omega
      generalize hk : (p + 1074).toNat = k at *
      rw [a1, Nat.pow_zero, Nat.mul_one]
      conv => lhs; rw [a2, Nat.pow_add, Nat.mul_div_mul_right _ _ (hpow _)]
  have hs : s = true → m = 0 := by
    intro hs
    subst hs
    rw [signed_eq] at h0
    simp only [if_true] at h0
    have hp2 : (0 : Int) < 2 ^ (p + 1074).toNat := Int.pow_pos (by decide)
    have : ¬ (m : Int) > 0 := by
      intro hm
      have := Int.mul_pos hm hp2
      rw [Int.mul_assoc, Int.neg_mul, Int.one_mul] at h0
      omega
    omega
  have hu : signed s m (p + 1074).toNat = ((m <<< (p + 1074).toNat : Nat) : Int) := by
    cases s
    · rfl
    · rw [hs rfl]; simp [signed]
  rw [hu] at h1 ⊢
  have hdiv : ((m <<< (p + 1074).toNat : Nat) : Int) / (unit : Int) = (q : Int) := by
    rw [← Int.natCast_ediv, hw]
  rw [hdiv]
  have hq53 : q < 2 ^ 53 := by
    rw [← hw]
    apply (Nat.div_lt_iff_lt_mul unit_pos).2
    have h2 : ((m <<< (p + 1074).toNat : Nat) : Int) < ((2 ^ 53 * unit : Nat) : Int) := by rw [Int.natCast_mul]; exact h1
    exact Int.ofNat_lt.1 h2
  have hsq : signed s q K = (q : Int) * unit := by
    rw [signed_unit]
    cases s
    · rfl
    · have : q = 0 := by rw [← hq, hs rfl]; simp
      subst this; simp
  constructor
  · show un (double.write (.number s (Toward.zero.cut s (m <<< p.toNat) (-p).toNat) 0)) = _
    rw [hcut, write_whole s q 0 q hq53 (by simp), hsq]
  · show some (signed s (Toward.zero.cut s (m <<< p.toNat) (-p).toNat) 0) = _
    rw [hcut]
    cases s
    · simp [signed]
    · have : q = 0 := by rw [← hq, hs rfl]; simp
      subst this; simp [signed]

/-- The whole number that a word reads as; none, if it reads as none. -/
def val (x : Nat) : Option Int := match un x with
  | some u => if u % unit = 0 then some (u / unit) else none
  | none => none

theorem val_some {x : Nat} {n : Int} (h : val x = some n) : un x = some (n * unit) := by
  unfold val at h
  split at h
  · rename_i u hu
    split at h
    · rename_i hz
      injection h with h
      rw [hu, ← h]
      congr 1
      have := Int.mul_ediv_add_emod u unit
      rw [hz, Int.add_zero, Int.mul_comm] at this
      exact this.symm
    · cases h
  · cases h

theorem val_of {x : Nat} {n : Int} (h : un x = some (n * unit)) : val x = some n := by
  have hne : (unit : Int) ≠ 0 := Int.ne_of_gt unit_posI
  unfold val
  simp only [h]
  rw [Int.mul_emod_left, if_pos rfl, Int.mul_ediv_cancel _ hne]

theorem order_val {x y : Nat} {m n : Int} (hx : val x = some m) (hy : val y = some n) : double.order x y = some (compare m n) := by
  rw [order_un (val_some hx) (val_some hy), cmp_mul _ _ _ unit_posI]

theorem val_floatOfInt {n : Int} (h : n.natAbs < 2 ^ 53) : val (floatOfInt .f64 n) = some n := val_of (un_floatOfInt n h)

/-- THE SUM OF TWO WHOLE NUMBERS. -/
theorem add_val {x y : Nat} {m n : Int} (hx : val x = some m) (hy : val y = some n) (h : (m + n).natAbs < 2 ^ 53) :
    ∃ r, double.add x y = some r ∧ val r = some (m + n) := by
  obtain ⟨s, a, i, hr, hi, hu⟩ := un_some (val_some hx)
  obtain ⟨t, b, j, hq, hj, hv⟩ := un_some (val_some hy)
  unfold Format.add
  rw [hr, hq]
  simp only [Datum.sum, Option.map_some]
  refine ⟨_, rfl, val_of ?_⟩
  generalize hT : signed s a (i - min i j).toNat + signed t b (j - min i j).toNat = total
  have hsum : total * 2 ^ (min i j + 1074).toNat = (m + n) * unit := by
    have e1 : (i + 1074).toNat = (i - min i j).toNat + (min i j + 1074).toNat := by omega
    have e2 : (j + 1074).toNat = (j - min i j).toNat + (min i j + 1074).toNat := by omega
    rw [e1, signed_add] at hu
    rw [e2, signed_add] at hv
    rw [← hT, Int.add_mul, Int.add_mul, hu, hv]
  have hb : -1074 ≤ min i j := by omega
  generalize min i j = base at *
  have hunit := unitI
  have hne : ∀ k : Nat, (2 : Int) ^ k ≠ 0 := fun k => Int.ne_of_gt (Int.pow_pos (by decide))
  have hZ : total * 2 ^ base.toNat = (m + n) * 2 ^ (-base).toNat := by
    by_cases h0 : 0 ≤ base
    · have a1 : (base + 1074).toNat = base.toNat + K := by have := K_eq; omega
      have a2 : (-base).toNat = 0 := by omega
      rw [a1, Int.pow_add, ← Int.mul_assoc, hunit] at hsum
      rw [a2, Int.pow_zero, Int.mul_one]
      exact Int.eq_of_mul_eq_mul_right (hne K) hsum
    · have a1 : base.toNat = 0 := by omega
      have a2 : K = (-base).toNat + (base + 1074).toNat := by have := K_eq; omega
      rw [a1, Int.pow_zero, Int.mul_one]
      rw [hunit] at hsum
      generalize (base + 1074).toNat = k at *
      rw [a2, Int.pow_add, ← Int.mul_assoc] at hsum
      exact Int.eq_of_mul_eq_mul_right (hne k) hsum
  have hN : total.natAbs <<< base.toNat = (m + n).natAbs <<< (-base).toNat := by
    have := congrArg Int.natAbs hZ
    rw [Int.natAbs_mul, Int.natAbs_mul, Int.natAbs_pow, Int.natAbs_pow] at this
    rw [Nat.shiftLeft_eq, Nat.shiftLeft_eq]
    exact this
  rw [write_whole _ _ _ _ h hN, signed_unit]
  congr 2
  -- the sign
  have hp : ∀ k : Nat, (0 : Int) < 2 ^ k := fun k => Int.pow_pos (by decide)
  have hpb := hp base.toNat
  have hpn := hp (-base).toNat
  by_cases h0 : total = 0
  · rw [h0, Int.zero_mul] at hZ
    have : m + n = 0 := by
      rcases Int.mul_eq_zero.1 hZ.symm with h | h
      · exact h
      · exact absurd h (hne _)
    rw [this]; simp
  · rw [if_neg h0]
    by_cases hlt : total < 0
    · have : m + n < 0 := by
        by_cases hc : m + n < 0
        · exact hc
        · have a := Int.mul_neg_of_neg_of_pos hlt hpb
          have b := Int.mul_nonneg (Int.not_lt.1 hc) (Int.le_of_lt hpn)
          omega
      simp only [hlt, decide_true, if_true]; omega
    · have : 0 ≤ m + n := by
        by_cases hc : 0 ≤ m + n
        · exact hc
        · have a := Int.mul_nonneg (Int.not_lt.1 hlt) (Int.le_of_lt hpb)
          have b := Int.mul_neg_of_neg_of_pos (Int.not_le.1 hc) hpn
          omega
      simp only [hlt, decide_false, Bool.false_eq_true, if_false]; omega

end Go.Proofs.Ytkoeiimaflbboaa.Fl
