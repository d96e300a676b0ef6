/- Roles: rolesOf. -/
import Derived.Test.YtgllmhheahlpjaaGreatDoorJMbH
import Derived.Laws.Cover2
import Derived.Laws.FloatArith
import Derived.Test.YtgllmhheahlpjaaGreatDoorRows
import Derived.WalkKit
import Derived.WalkLawsBesides
import Derived.Lib.Hide
import Derived.Outline
import Derived.ScopeJumps
import Derived.Tactics
set_option linter.unusedVariables false
set_option linter.unusedSimpArgs false
set_option maxRecDepth 100000
set_option maxHeartbeats 40000000
namespace Go.Proofs.YtgllmhheahlpjaaGreatDoor
open Go.RowKit
theorem rolesof_c (s : List UInt8) (b o n cap : Nat) (xs : List Nd) (hn : xs.length = n) (h1 : 1 ≤ n) (h2 : n ≤ 120) (hsub : ∀ i, i < n → ∃ t, Sub (fun i => xs[i]?) t i) (w : World) (hx : NodesAt w b o xs) :
  Calls Tryz.prog 104 #[.slice (some ⟨b, o, none⟩) n cap] w fun e w' => e = .returned (.slice (some ⟨w.heap.size, 0, none⟩) n n) ∧ (∃ F, URow w' w.heap.size (n * 3) F ∧ ∀ (j : Nat) (t : T), j < n → Sub (fun i => xs[i]?) t j → F (j * 3) = gw (semT s t).asked ∧ F (j * 3 + 1) = gw (semT s t).always ∧ F (j * 3 + 2) = gw (semT s t).ever) ∧ Below w.heap.size w w' := by
 have HS := Lib.hid hsub
 clear hsub
 have hm := mk_roles n h2 w
 go_enter Tryz.func104, Tryz.ntmps104
 go_wp2
 clear hm
 have lb := hx.lt
 go_loopw [11] (fun i wr => ∃ k : Nat, k ≤ n ∧ i = .int .i64 k ∧ (∃ F, URow wr w.heap.size (n * 3) F ∧ ∀ (j : Nat) (t : T), j < k → Sub (fun i => xs[i]?) t j → F (j * 3) = gw (semT s t).asked ∧ F (j * 3 + 1) = gw (semT s t).always ∧ F (j * 3 + 2) = gw (semT s t).ever) ∧ Below w.heap.size w wr) (fun i _ => n - (RowKit.intOf i).toNat)
 case atStart =>
  exact ⟨0, by omega, rfl, ⟨fun _ => 0, URow.new w _ _, fun j t hj => by omega⟩, (Below.refl _ w).alloc (Nat.le_refl _) _⟩
 case round =>
  obtain ⟨k, hk, rfl, ⟨F, hf, hg⟩, hB⟩ := hrel
  have HG := Lib.hid hg
  clear hg
  by_cases hlt : k < n
  ·obtain ⟨x, hxk⟩ : ∃ x, xs[k]? = some x := ⟨xs[k]'(by omega), List.getElem?_eq_getElem (by omega)⟩
   obtain ⟨t, ht⟩ := HS.out k hlt
   have hw := hx.below hB hx.lt
   have d := hw.cell k x hxk
   have lB := hB.size
   have lf := hf.lt
   have hcall := roleof_c s (fun i => xs[i]?) t k x ht hxk w.heap.size n n hlt h2 (wr.alloc (.cells x.cells 60)) (fun j u hj hu => by
    obtain ⟨f0, f1, f2⟩ := HG.out j u hj hu
    exact (hf.below (B := wr.heap.size) ((Below.refl _ wr).alloc (Nat.le_refl _) _) lf).role (by omega) f0 f1 f2)
   have HT := Lib.hid ht
   have hfin : ∀ W, URow W w.heap.size (n * 3) (fun i => if i = k * 3 + 2 then gw (semT s t).ever else (if i = k * 3 + 1 then gw (semT s t).always else (if i = k * 3 then gw (semT s t).asked else F i))) → ∃ F, URow W w.heap.size (n * 3) F ∧ ∀ (j : Nat) (t : T), j < k + 1 → Sub (fun i => xs[i]?) t j → F (j * 3) = gw (semT s t).asked ∧ F (j * 3 + 1) = gw (semT s t).always ∧ F (j * 3 + 2) = gw (semT s t).ever := fun W hW => by
    refine ⟨_, hW, fun j u hj hu => ?_⟩
    by_cases e : j = k
    ·subst e
     obtain rfl := sub_uniq u t j hu HT.out
     refine ⟨?_, ?_, ?_⟩
     ·rw [if_neg (by omega), if_neg (by omega), if_pos rfl]
     ·rw [if_neg (by omega), if_pos rfl]
     ·rw [if_pos rfl]
    ·obtain ⟨f0, f1, f2⟩ := HG.out j u (by omega) hu
     refine ⟨?_, ?_, ?_⟩
     ·rw [if_neg (by omega), if_neg (by omega), if_neg (by omega), f0]
     ·rw [if_neg (by omega), if_neg (by omega), if_neg (by omega), f1]
     ·rw [if_neg (by omega), if_neg (by omega), if_neg (by omega), f2]
   have HFin := Lib.hid hfin
   clear hfin ht
   obtain ⟨kd, w0, w1, w2, w3, xa, xb, m, M, xn⟩ := x
   have d0 : wr.cell? ⟨b, o + k * 10, none⟩ = some (.int .i64 kd) := d 0 _ rfl
   have d1 : wr.cell? ⟨b, o + k * 10 + 1, none⟩ = some (.int .u64 w0) := d 1 _ rfl
   have d2 : wr.cell? ⟨b, o + k * 10 + 2, none⟩ = some (.int .u64 w1) := d 2 _ rfl
   have d3 : wr.cell? ⟨b, o + k * 10 + 3, none⟩ = some (.int .u64 w2) := d 3 _ rfl
   have d4 : wr.cell? ⟨b, o + k * 10 + 4, none⟩ = some (.int .u64 w3) := d 4 _ rfl
   have d5 : wr.cell? ⟨b, o + k * 10 + 5, none⟩ = some (.int .i64 xa) := d 5 _ rfl
   have d6 : wr.cell? ⟨b, o + k * 10 + 6, none⟩ = some (.int .i64 xb) := d 6 _ rfl
   have d7 : wr.cell? ⟨b, o + k * 10 + 7, none⟩ = some (.int .i64 m) := d 7 _ rfl
   have d8 : wr.cell? ⟨b, o + k * 10 + 8, none⟩ = some (.int .i64 M) := d 8 _ rfl
   have d9 : wr.cell? ⟨b, o + k * 10 + 9, none⟩ = some (.int .i64 xn) := d 9 _ rfl
   clear d
   unfold roleV at hcall
   generalize gw (semT s t).asked = y1 at *
   generalize gw (semT s t).always = y2 at *
   generalize gw (semT s t).ever = y3 at *
   have HC := Lib.hid hcall
   clear hcall
   go_wp2_with fail
   refine HC.out.mono ?_
   rintro e v2 ⟨rfl, hB2⟩
   rw [World.size_alloc] at hB2
   have hf2 : URow v2 w.heap.size (n * 3) F := (hf.below (B := wr.heap.size) ((Below.refl _ wr).alloc (Nat.le_refl _) _) lf).below hB2 (by omega)
   have q0 := hf2.cell (k * 3) (by omega)
   have q1 := hf2.cell (k * 3 + 1) (by omega)
   have q2 := hf2.cell (k * 3 + 2) (by omega)
   have z0 := hf2.fz (k * 3)
   have z1 := hf2.fz (k * 3 + 1)
   have z2 := hf2.fz (k * 3 + 2)
   have hB3 : Below w.heap.size w v2 := (hB.alloc lB _).trans ⟨hB2.os, hB2.tape, hB2.output, hB2.size, fun i hi => hB2.block i (by omega)⟩
   have HB3 := Lib.hid hB3
   clear d0 d1 d2 d3 d4 d5 d6 d7 d8 d9 hB2 hB3 HC
   go_wp2
   go_roundw
   case rel =>
    exact ⟨k + 1, by omega, by simp, HFin.out _ (((hf2.set (k * 3) y1).set (k * 3 + 1) y2).set (k * 3 + 2) y3), ((HB3.out.setCell (p := ⟨w.heap.size, k * 3, none⟩) (Nat.le_refl _) _).setCell (p := ⟨w.heap.size, k * 3 + 1, none⟩) (Nat.le_refl _) _).setCell (p := ⟨w.heap.size, k * 3 + 2, none⟩) (Nat.le_refl _) _⟩
   case measure => (simp [RowKit.intOf]) <;> omega
  ·obtain rfl : k = n := by omega
   go_wp2
   go_ret
   exact ⟨rfl, ⟨F, hf, HG.out⟩, hB⟩
end Go.Proofs.YtgllmhheahlpjaaGreatDoor
namespace Go.Proofs.YtgllmhheahlpjaaGreatDoor.Fl
open Ieee
def K : Nat := 1074
theorem K_eq : K = 1074 := rfl
def unit : Nat := 2 ^ K
theorem unit_pos : 0 < unit := Nat.pow_pos (by decide)
theorem unit_posI : (0 : Int) < (unit : Int) := Int.natCast_pos.2 unit_pos
theorem signed_eq (s : Bool) (m k : Nat) : signed s m k = (if s then -1 else 1) * (m : Int) * 2 ^ k := by
 unfold signed
 cases s <;> simp [Nat.shiftLeft_eq, Int.natCast_mul, Int.natCast_pow, Int.neg_mul]
theorem signed_add (s : Bool) (m k l : Nat) : signed s m (k + l) = signed s m k * 2 ^ l := by
 rw [signed_eq, signed_eq, Int.pow_add]; simp only [Int.mul_assoc]
def dun : Datum → Option Int
 | .number s m p => some (signed s m (p + 1074).toNat)
 | _ => none
def un (x : Nat) : Option Int := dun (double.read x)
theorem least_eq : double.leastPlace = -1074 := by decide
theorem binade_eq : double.binade = 2 ^ 52 := rfl
theorem infRung_eq : double.infRung = 2047 * 2 ^ 52 := by decide
theorem signWeight_eq : double.signWeight = 2 ^ 63 := by decide
theorem read_place {x : Nat} {s : Bool} {m : Nat} {p : Int} (h : double.read x = .number s m p) : -1074 ≤ p := by
 unfold Format.read at h
 simp only [least_eq] at h
 split at h
 ·injection h with _ _ h; omega
 ·split at h
  ·injection h with _ _ h; omega
  ·split at h <;> cases h
theorem cmp_mul (a b c : Int) (hc : 0 < c) : compare (a * c) (b * c) = compare a b := by
 rcases Int.lt_trichotomy a b with h | h | h
 ·rw [Int.compare_eq_lt.2 h, Int.compare_eq_lt.2 (Int.mul_lt_mul_of_pos_right h hc)]
 ·subst h; simp
 ·rw [Int.compare_eq_gt.2 h, Int.compare_eq_gt.2 (Int.mul_lt_mul_of_pos_right h hc)]
theorem order_numbers (s : Bool) (m : Nat) (i : Int) (t : Bool) (n : Nat) (j : Int) (hi : -1074 ≤ i) (hj : -1074 ≤ j) :
  Datum.order (.number s m i) (.number t n j) = some (compare (signed s m (i + 1074).toNat) (signed t n (j + 1074).toNat)) := by
 have e1 : (i + 1074).toNat = (i - min i j).toNat + (min i j + 1074).toNat := by omega
 have e2 : (j + 1074).toNat = (j - min i j).toNat + (min i j + 1074).toNat := by omega
 rw [e1, e2, signed_add, signed_add, cmp_mul _ _ _ (Int.pow_pos (by decide))]
 rfl
theorem un_some {x : Nat} {u : Int} (h : un x = some u) : ∃ s m p, double.read x = .number s m p ∧ -1074 ≤ p ∧ signed s m (p + 1074).toNat = u := by
 unfold un at h
 cases hr : double.read x with
 | number s m p => rw [hr] at h; exact ⟨s, m, p, rfl, read_place hr, by simpa [dun] using h⟩
 | infinity s => rw [hr] at h; cases h
 | nan s f => rw [hr] at h; cases h
theorem order_un {x y : Nat} {u v : Int} (hx : un x = some u) (hy : un y = some v) : double.order x y = some (compare u v) := by
 obtain ⟨s, m, p, hr, hp, rfl⟩ := un_some hx
 obtain ⟨t, n, q, hq, hp2, rfl⟩ := un_some hy
 unfold Format.order
 rw [hr, hq, order_numbers _ _ _ _ _ _ hp hp2]
theorem log2_shift {n : Nat} (hn : n ≠ 0) (k : Nat) : (n * 2 ^ k).log2 = n.log2 + k := by
 have hp : 0 < 2 ^ k := Nat.pow_pos (by decide)
 have hne : n * 2 ^ k ≠ 0 := Nat.mul_ne_zero hn (Nat.ne_of_gt hp)
 apply (Nat.log2_eq_iff hne).2
 constructor
 ·rw [Nat.pow_add]; exact Nat.mul_le_mul_right _ (Nat.log2_self_le hn)
 ·have : n.log2 + k + 1 = (n.log2 + 1) + k := by omega
  rw [this, Nat.pow_add]; exact Nat.mul_lt_mul_of_pos_right Nat.lt_log2_self hp
theorem cut_exact (s : Bool) (n drop : Nat) : Toward.even.cut s (n <<< drop) drop = n := by
 unfold Toward.cut
 by_cases hn : n = 0
 ·subst hn
  simp
 ·have hl : (n <<< drop).log2 = n.log2 + drop := by
   rw [Nat.shiftLeft_eq]
   exact log2_shift hn drop
  have hm : min drop ((n <<< drop).log2 + 2) = drop := by rw [hl]; omega
  have hg : 1 <<< drop = 2 ^ drop := by rw [Nat.shiftLeft_eq, Nat.one_mul]
  have hp : 0 < 2 ^ drop := Nat.pow_pos (by decide)
  simp only [hm, hg]
  rw [Nat.shiftLeft_eq, Nat.mul_div_cancel _ hp, Nat.mul_mod_left]
  have : (2 ^ drop == 0) = false := by simp
  simp [this]
theorem read_word (s : Bool) (r : Nat) (h : r < 2 ^ 63) (h0 : 2 ^ 52 ≤ r) (h1 : r < 2047 * 2 ^ 52) :
  double.read (double.word s r) = .number s (2 ^ 52 + r % 2 ^ 52) (-1074 + (r / 2 ^ 52 - 1 : Nat)) := by
 have hw : double.word s r / 2 ^ 63 % 2 = (if s then 1 else 0) ∧ double.word s r % 2 ^ 63 = r := by
  unfold Format.word
  rw [signWeight_eq]
  cases s
  ·simp; omega
  ·simp; omega
 unfold Format.read
 simp only [signWeight_eq, hw.1, hw.2, binade_eq, infRung_eq, least_eq]
 rw [if_neg (by omega), if_pos h1]
 cases s <;> rfl
theorem read_zero (s : Bool) : double.read (double.word s 0) = .number s 0 (-1074) := by
 cases s <;> decide +kernel
theorem place_fact (e : Nat) : (-1074 + (e : Int) + 1074).toNat = e := by omega
theorem rung_facts (kept e : Nat) (hl : 2 ^ 52 ≤ kept) (hh : kept < 2 ^ 53) (he : e ≤ 52) :
  min ((e + 1022) * 2 ^ 52 + kept) (2047 * 2 ^ 52) = (e + 1022) * 2 ^ 52 + kept ∧ (e + 1022) * 2 ^ 52 + kept < 2 ^ 63
  ∧ 2 ^ 52 ≤ (e + 1022) * 2 ^ 52 + kept ∧ (e + 1022) * 2 ^ 52 + kept < 2047 * 2 ^ 52
  ∧ 2 ^ 52 + ((e + 1022) * 2 ^ 52 + kept) % 2 ^ 52 = kept ∧ ((e + 1022) * 2 ^ 52 + kept) / 2 ^ 52 - 1 = e + 1022 := by
 refine ⟨?_, ?_, ?_, ?_, ?_, ?_⟩ <;> omega
theorem write_whole (s : Bool) (m : Nat) (p : Int) (n : Nat) (hn : n < 2 ^ 53) (h : m <<< p.toNat = n <<< (-p).toNat) :
  un (double.write (.number s m p)) = some (signed s n K) := by
 have hpow : ∀ k : Nat, 0 < 2 ^ k := fun k => Nat.pow_pos (by decide)
 unfold un Format.write Format.nearest
 by_cases hm : m = 0
 ·subst hm
  have hn0 : n = 0 := by
   rw [Nat.zero_shiftLeft] at h
   rw [Nat.shiftLeft_eq] at h
   rcases Nat.mul_eq_zero.1 h.symm with h | h
   ·exact h
   ·exact absurd h (Nat.ne_of_gt (hpow _))
  subst hn0
  show dun (double.read (if (0 : Nat) = 0 then double.word s 0 else _)) = _
  rw [if_pos rfl, read_zero]
  show some (signed s 0 (-1074 + 1074 : Int).toNat) = some (signed s 0 K)
  cases s <;> simp [signed]
 ·have hn0 : n ≠ 0 := by
   intro h0
   subst h0
   rw [Nat.zero_shiftLeft, Nat.shiftLeft_eq] at h
   rcases Nat.mul_eq_zero.1 h with h | h
   ·exact hm h
   ·exact absurd h (Nat.ne_of_gt (hpow _))
  simp only [if_neg hm]
  have hlog : (m.log2 : Int) + p = n.log2 := by
   have := congrArg Nat.log2 h
   rw [Nat.shiftLeft_eq, Nat.shiftLeft_eq, log2_shift hm, log2_shift hn0] at this
   omega
  have he : n.log2 ≤ 52 := by
   have := (Nat.log2_lt hn0).2 hn
   omega
  have hlo : 2 ^ n.log2 ≤ n := Nat.log2_self_le hn0
  have hhi : n < 2 ^ (n.log2 + 1) := Nat.lt_log2_self
  generalize hE : n.log2 = e at *
  have hlast : max (p + m.log2 - double.fractionBits) double.leastPlace = (e : Int) - 52 := by
   rw [least_eq, show double.fractionBits = 52 from rfl]; omega
  simp only [hlast]
  have hmag : m <<< (p - ((e : Int) - 52)).toNat = (n <<< (52 - e)) <<< ((e : Int) - 52 - p).toNat := by
   rw [Nat.shiftLeft_eq, Nat.shiftLeft_eq] at h
   simp only [Nat.shiftLeft_eq]
   by_cases h1 : 0 ≤ p
   ·have a1 : (-p).toNat = 0 := by omega
    have a2 : (p - ((e : Int) - 52)).toNat = p.toNat + (52 - e) := by omega
    have a3 : ((e : Int) - 52 - p).toNat = 0 := by omega
    rw [a1, Nat.pow_zero, Nat.mul_one] at h
    rw [a2, a3, Nat.pow_add, Nat.pow_zero, Nat.mul_one, ← Nat.mul_assoc, h]
   ·have a1 : p.toNat = 0 := by omega
    rw [a1, Nat.pow_zero, Nat.mul_one] at h
    subst h
    by_cases h2 : (e : Int) - 52 ≤ p
    ·have a3 : ((e : Int) - 52 - p).toNat = 0 := by omega
     have a4 : 52 - e = (-p).toNat + (p - ((e : Int) - 52)).toNat := by omega
     rw [a3, a4, Nat.pow_zero, Nat.mul_one, Nat.pow_add, Nat.mul_assoc]
    ·have a3 : (p - ((e : Int) - 52)).toNat = 0 := by omega
     have a4 : (-p).toNat = (52 - e) + ((e : Int) - 52 - p).toNat := by omega
     rw [a3, a4, Nat.pow_zero, Nat.mul_one, Nat.pow_add, Nat.mul_assoc]
  rw [hmag, cut_exact]
  have hk : n <<< (52 - e) = n * 2 ^ (52 - e) := Nat.shiftLeft_eq ..
  rw [hk]
  have hkl : 2 ^ 52 ≤ n * 2 ^ (52 - e) := by
   have : 2 ^ 52 = 2 ^ e * 2 ^ (52 - e) := by rw [← Nat.pow_add]; congr 1; omega
   rw [this]
   exact Nat.mul_le_mul_right _ hlo
  have hkh : n * 2 ^ (52 - e) < 2 ^ 53 := by
   have : 2 ^ 53 = 2 ^ (e + 1) * 2 ^ (52 - e) := by rw [← Nat.pow_add]; congr 1; omega
   rw [this]
   exact Nat.mul_lt_mul_of_pos_right hhi (hpow _)
  have hval : n * 2 ^ (52 - e) * 2 ^ (e + 1022) = n * 2 ^ K := by
   have e3 : 52 - e + (e + 1022) = K := by have := K_eq; omega
   rw [Nat.mul_assoc, ← Nat.pow_add, e3]
  generalize n * 2 ^ (52 - e) = kept at *
  have hr0 : ((e : Int) - 52 - double.leastPlace).toNat = e + 1022 := by rw [least_eq]; omega
  rw [hr0, binade_eq, infRung_eq]
  obtain ⟨hmin, c1, c2, c3, b1, b2⟩ := rung_facts kept e hkl hkh he
  rw [hmin, read_word _ _ c1 c2 c3]
  rw [b1, b2]
  have b3 : (-1074 + ((e + 1022 : Nat) : Int) + 1074).toNat = e + 1022 := place_fact _
  show some (signed s kept (-1074 + ((e + 1022 : Nat) : Int) + 1074).toNat) = _
  rw [b3]
  unfold signed
  rw [Nat.shiftLeft_eq, Nat.shiftLeft_eq, hval]
theorem unitI : (unit : Int) = 2 ^ K := by unfold unit; rw [Int.natCast_pow]; rfl
theorem signed_unit (s : Bool) (n : Nat) : signed s n K = (if s then -(n : Int) else n) * unit := by
 rw [signed_eq, unitI]
 cases s <;> simp
theorem un_floatOfInt (n : Int) (h : n.natAbs < 2 ^ 53) : un (floatOfInt .f64 n) = some (n * unit) := by
 have := write_whole (n < 0) n.natAbs 0 n.natAbs h (by simp)
 rw [signed_unit] at this
 refine Eq.trans this ?_
 congr 2
 by_cases h0 : n < 0
 ·simp [h0]; omega
 ·simp [h0]; omega
theorem un_trunc {x : Nat} {u : Int} (h : un x = some u) (h0 : 0 ≤ u) (h1 : u < ((2 ^ 53 : Nat) : Int) * unit) :
  un (double.write ((double.read x).integral .zero)) = some (u / unit * unit) ∧ (double.read x).toInt .zero = some (u / unit) := by
 obtain ⟨s, m, p, hr, hp, rfl⟩ := un_some h
 rw [hr]
 -- the whole part, as a natural number
 have hpow : ∀ k : Nat, 0 < 2 ^ k := fun k => Nat.pow_pos (by decide)
 have hcut : Toward.zero.cut s (m <<< p.toNat) (-p).toNat = m <<< p.toNat / 2 ^ (-p).toNat := by
  unfold Toward.cut
  simp only [Bool.toNat_false, Nat.add_zero]
  have hg : ∀ k, 1 <<< k = 2 ^ k := fun k => by rw [Nat.shiftLeft_eq, Nat.one_mul]
  rw [hg]
  by_cases hd : (-p).toNat ≤ (m <<< p.toNat).log2 + 2
  ·rw [Nat.min_eq_left hd]
  ·have hp0 : p.toNat = 0 := by omega
   rw [hp0] at hd ⊢
   have hm0 : m <<< 0 = m := rfl
   rw [hm0] at hd ⊢
   have hlt : m < 2 ^ (m.log2 + 1) := Nat.lt_log2_self
   have e1 : m / 2 ^ min (-p).toNat (m.log2 + 2) = 0 := by
    apply Nat.div_eq_of_lt
    rw [Nat.min_eq_right (by omega)]
    exact Nat.lt_of_lt_of_le hlt (Nat.pow_le_pow_right (by decide) (by omega))
   have e2 : m / 2 ^ (-p).toNat = 0 := by
    apply Nat.div_eq_of_lt
    exact Nat.lt_of_lt_of_le hlt (Nat.pow_le_pow_right (by decide) (by omega))
   rw [e1, e2]
 generalize hq : m <<< p.toNat / 2 ^ (-p).toNat = q at hcut
 -- the units: m shifted
 have hw : m <<< (p + 1074).toNat / unit = q := by
  rw [← hq]
  unfold unit
  simp only [Nat.shiftLeft_eq]
  by_cases h2 : 0 ≤ p
  ·have a1 : (p + 1074).toNat = p.toNat + K := by have := K_eq; omega
   have a2 : (-p).toNat = 0 := by omega
   rw [a1, a2, Nat.pow_add, ← Nat.mul_assoc, Nat.mul_div_cancel _ (hpow _), Nat.pow_zero, Nat.div_one]
  ·have a1 : p.toNat = 0 := by omega
   have a2 : K = (-p).toNat + (p + 1074).toNat := by have := K_eq; omega
   generalize hk : (p + 1074).toNat = k at *
   rw [a1, Nat.pow_zero, Nat.mul_one]
   conv => lhs; rw [a2, Nat.pow_add, Nat.mul_div_mul_right _ _ (hpow _)]
 have hs : s = true → m = 0 := by
  intro hs
  subst hs
  rw [signed_eq] at h0
  simp only [if_true] at h0
  have hp2 : (0 : Int) < 2 ^ (p + 1074).toNat := Int.pow_pos (by decide)
  have : ¬ (m : Int) > 0 := by
   intro hm
   have := Int.mul_pos hm hp2
   rw [Int.mul_assoc, Int.neg_mul, Int.one_mul] at h0
   omega
  omega
 have hu : signed s m (p + 1074).toNat = ((m <<< (p + 1074).toNat : Nat) : Int) := by
  cases s
  ·rfl
  ·rw [hs rfl]; simp [signed]
 rw [hu] at h1 ⊢
 have hdiv : ((m <<< (p + 1074).toNat : Nat) : Int) / (unit : Int) = (q : Int) := by
  rw [← Int.natCast_ediv, hw]
 rw [hdiv]
 have hq53 : q < 2 ^ 53 := by
  rw [← hw]
  apply (Nat.div_lt_iff_lt_mul unit_pos).2
  have h2 : ((m <<< (p + 1074).toNat : Nat) : Int) < ((2 ^ 53 * unit : Nat) : Int) := by rw [Int.natCast_mul]; exact h1
  exact Int.ofNat_lt.1 h2
 have hsq : signed s q K = (q : Int) * unit := by
  rw [signed_unit]
  cases s
  ·rfl
  ·have : q = 0 := by rw [← hq, hs rfl]; simp
   subst this; simp
 constructor
 ·show un (double.write (.number s (Toward.zero.cut s (m <<< p.toNat) (-p).toNat) 0)) = _
  rw [hcut, write_whole s q 0 q hq53 (by simp), hsq]
 ·show some (signed s (Toward.zero.cut s (m <<< p.toNat) (-p).toNat) 0) = _
  rw [hcut]
  cases s
  ·simp [signed]
  ·have : q = 0 := by rw [← hq, hs rfl]; simp
   subst this; simp [signed]
def val (x : Nat) : Option Int := match un x with
 | some u => if u % unit = 0 then some (u / unit) else none
 | none => none
theorem val_some {x : Nat} {n : Int} (h : val x = some n) : un x = some (n * unit) := by
 unfold val at h
 split at h
 ·rename_i u hu
  split at h
  ·rename_i hz
   injection h with h
   rw [hu, ← h]
   congr 1
   have := Int.mul_ediv_add_emod u unit
   rw [hz, Int.add_zero, Int.mul_comm] at this
   exact this.symm
  ·cases h
 ·cases h
theorem val_of {x : Nat} {n : Int} (h : un x = some (n * unit)) : val x = some n := by
 have hne : (unit : Int) ≠ 0 := Int.ne_of_gt unit_posI
 unfold val
 simp only [h]
 rw [Int.mul_emod_left, if_pos rfl, Int.mul_ediv_cancel _ hne]
theorem order_val {x y : Nat} {m n : Int} (hx : val x = some m) (hy : val y = some n) : double.order x y = some (compare m n) := by
 rw [order_un (val_some hx) (val_some hy), cmp_mul _ _ _ unit_posI]
theorem val_floatOfInt {n : Int} (h : n.natAbs < 2 ^ 53) : val (floatOfInt .f64 n) = some n := val_of (un_floatOfInt n h)
end Go.Proofs.YtgllmhheahlpjaaGreatDoor.Fl
namespace Go.Proofs.YtgllmhheahlpjaaGreatDoor
open Go.RowKit Go.Proofs.YtgllmhheahlpjaaGreatDoor.Fl
def MAXB : Nat := 4741671816358002688
def NEGB : Nat := 13830554455654793216
theorem val_zero : val 0 = some 0 := by decide +kernel
theorem val_max : val MAXB = some 999999999 := by decide +kernel
theorem val_neg : val NEGB = some (-1) := by decide +kernel
def geB (x y : Nat) : Bool := FloatKind.f64.format.order x y == some .gt || FloatKind.f64.format.order x y == some .eq
def leB (x y : Nat) : Bool := FloatKind.f64.format.order x y == some .lt || FloatKind.f64.format.order x y == some .eq
def sp (x y : Nat) : Option (Int × Int) := match val x, val y with
 | some m, some n => if 0 ≤ m ∧ m ≤ n ∧ n ≤ 999999999 then some (m, n) else none
 | _, _ => none
theorem sp_some {x y : Nat} {m n : Int} (h : sp x y = some (m, n)) : val x = some m ∧ val y = some n ∧ 0 ≤ m ∧ m ≤ n ∧ n ≤ 999999999 := by
 unfold sp at h
 split at h
 ·rename_i a b ha hb
  split at h
  ·rename_i hc
   simp only [Option.some.injEq, Prod.mk.injEq] at h
   obtain ⟨rfl, rfl⟩ := h
   exact ⟨ha, hb, hc⟩
  ·cases h
 ·cases h
theorem sp_of {x y : Nat} {m n : Int} (hx : val x = some m) (hy : val y = some n) (h0 : 0 ≤ m) (h1 : m ≤ n) (h2 : n ≤ 999999999) : sp x y = some (m, n) := by
 unfold sp; rw [hx, hy]; simp [h0, h1, h2]
theorem order_rfl (x y : Nat) : FloatKind.f64.format.order x y = Ieee.double.order x y := rfl
theorem geB_val {x y : Nat} {m n : Int} (hx : val x = some m) (hy : val y = some n) : geB x y = decide (n ≤ m) := by
 unfold geB
 rw [order_rfl, order_val hx hy]
 rcases Int.lt_trichotomy m n with h | h | h
 ·rw [Int.compare_eq_lt.2 h]; have : ¬ n ≤ m := by omega
  simp [this]
 ·subst h; simp
 ·rw [Int.compare_eq_gt.2 h]; have : n ≤ m := by omega
  simp [this]
theorem leB_un {x y : Nat} {m n : Int} (hx : un x = some m) (hy : un y = some n) : leB x y = decide (m ≤ n) := by
 unfold leB
 rw [order_rfl, order_un hx hy]
 rcases Int.lt_trichotomy m n with h | h | h
 ·rw [Int.compare_eq_lt.2 h]; have : m ≤ n := by omega
  simp [this]
 ·subst h; simp
 ·rw [Int.compare_eq_gt.2 h]; have : ¬ m ≤ n := by omega
  simp [this]
theorem geB_un {x y : Nat} {m n : Int} (hx : un x = some m) (hy : un y = some n) : geB x y = decide (n ≤ m) := by
 unfold geB
 rw [order_rfl, order_un hx hy]
 rcases Int.lt_trichotomy m n with h | h | h
 ·rw [Int.compare_eq_lt.2 h]; have : ¬ n ≤ m := by omega
  simp [this]
 ·subst h; simp
 ·rw [Int.compare_eq_gt.2 h]; have : n ≤ m := by omega
  simp [this]
theorem leB_val {x y : Nat} {m n : Int} (hx : val x = some m) (hy : val y = some n) : leB x y = decide (m ≤ n) := by
 rw [leB_un (val_some hx) (val_some hy)]
 have := unit_posI
 by_cases h : m ≤ n
 ·simp [h, Int.mul_le_mul_of_nonneg_right h (Int.le_of_lt this)]
 ·have h2 : ¬ m * unit ≤ n * unit := by
   have := Int.mul_lt_mul_of_pos_right (Int.not_le.1 h) this
   omega
  simp [h, h2]
theorem below53 {u : Int} (h : u ≤ 999999999 * unit) : u < ((2 ^ 53 : Nat) : Int) * unit := by
 have := Int.mul_lt_mul_of_pos_right (show (999999999 : Int) < ((2 ^ 53 : Nat) : Int) by decide) unit_posI
 omega
theorem un_pair {x y : Nat} (h0 : geB x 0 = true) (h1 : leB x y = true) (h2 : leB y MAXB = true) :
  ∃ u v : Int, un x = some u ∧ un y = some v ∧ 0 ≤ u ∧ u ≤ v ∧ v ≤ 999999999 * unit := by
 have hz := val_some val_zero
 have hm := val_some val_max
 have hy0 : ∃ v : Int, un y = some v := by
  unfold un
  cases hr : Ieee.double.read y with
  | number s m p => exact ⟨_, rfl⟩
  | nan s f =>
   have : Ieee.double.order y MAXB = none := by unfold Ieee.Format.order; rw [hr]; rfl
   unfold leB at h2; rw [order_rfl, this] at h2; cases h2
  | infinity s =>
   cases s
   ·have : Ieee.double.order y MAXB = some .gt := by
     unfold Ieee.Format.order; rw [hr]
     have : Ieee.double.read MAXB = .number false 8388607991611392 (-23) := by decide +kernel
     rw [this]; rfl
    unfold leB at h2; rw [order_rfl, this] at h2; cases h2
   ·exfalso
    have hg : Ieee.double.order x y = some .gt ∨ Ieee.double.order x y = none ∨ Ieee.double.order x 0 = some .lt := by
     unfold Ieee.Format.order; rw [hr]
     cases hq : Ieee.double.read x with
     | number s m p => left; rfl
     | nan s f => right; left; rfl
     | infinity t =>
      cases t
      ·left; rfl
      ·right; right
       have : Ieee.double.read 0 = .number false 0 (-1074) := by decide +kernel
       rw [this]; rfl
    rcases hg with hg | hg | hg
    ·unfold leB at h1; rw [order_rfl, hg] at h1; cases h1
    ·unfold leB at h1; rw [order_rfl, hg] at h1; cases h1
    ·unfold geB at h0; rw [order_rfl, hg] at h0; cases h0
 obtain ⟨v, hv⟩ := hy0
 have hx0 : ∃ u : Int, un x = some u := by
  cases hq : Ieee.double.read x with
  | number s m p => exact ⟨_, by unfold un; rw [hq]; rfl⟩
  | nan s f =>
   have : Ieee.double.order x 0 = none := by unfold Ieee.Format.order; rw [hq]; rfl
   unfold geB at h0; rw [order_rfl, this] at h0; cases h0
  | infinity s =>
   obtain ⟨t, a, b, hr, _, _⟩ := un_some hv
   cases s
   ·have : Ieee.double.order x y = some .gt := by unfold Ieee.Format.order; rw [hq, hr]; rfl
    unfold leB at h1; rw [order_rfl, this] at h1; cases h1
   ·have : Ieee.double.order x 0 = some .lt := by
     unfold Ieee.Format.order; rw [hq]
     have : Ieee.double.read 0 = .number false 0 (-1074) := by decide +kernel
     rw [this]; rfl
    unfold geB at h0; rw [order_rfl, this] at h0; cases h0
 obtain ⟨u, hu⟩ := hx0
 rw [geB_un hu hz] at h0
 rw [leB_un hu hv] at h1
 rw [leB_un hv hm] at h2
 exact ⟨u, v, hu, hv, by simpa using h0, by simpa using h1, by simpa using h2⟩
theorem sp_yes {x y : Nat} {u v : Int} (hx : un x = some u) (hy : un y = some v) (h0 : 0 ≤ u) (h1 : u ≤ v) (h2 : v ≤ 999999999 * unit) (hu : u % unit = 0) (hv : v % unit = 0) :
  sp x y = some (u / unit, v / unit) := by
 have hx' : val x = some (u / unit) := by unfold val; rw [hx]; simp [hu]
 have hy' : val y = some (v / unit) := by unfold val; rw [hy]; simp [hv]
 refine sp_of hx' hy' (Int.ediv_nonneg h0 (Int.le_of_lt unit_posI)) (Int.ediv_le_ediv unit_posI h1) ?_
 have := Int.ediv_le_ediv unit_posI h2
 rwa [Int.mul_ediv_cancel _ (Int.ne_of_gt unit_posI)] at this
theorem cut_order {x y : Nat} {u : Int} (hx : un x = some u) (hy : un y = some (u / unit * unit)) :
  (u % unit = 0 → FloatKind.f64.format.order y x = some .eq) ∧ (u % unit ≠ 0 → FloatKind.f64.format.order y x = some .lt) := by
 have e := Int.mul_ediv_add_emod u unit
 have ep := Int.emod_nonneg u (Int.ne_of_gt unit_posI)
 rw [Int.mul_comm] at e
 rw [order_rfl, order_un hy hx]
 constructor
 ·intro h; rw [h, Int.add_zero] at e; rw [e]; simp
 ·intro h
  have : u / unit * unit < u := by omega
  rw [Int.compare_eq_lt.2 this]
theorem toInt_val {x : Nat} {u : Int} (hx : un x = some u) (h0 : 0 ≤ u) (h1 : u ≤ 999999999 * unit) : floatToIntVal .f64 x .i64 = some (u / unit) := by
 have h := (un_trunc hx h0 (below53 h1)).2
 have hlo := Int.ediv_nonneg h0 (Int.le_of_lt unit_posI)
 have hhi := Int.ediv_le_ediv unit_posI h1
 rw [Int.mul_ediv_cancel _ (Int.ne_of_gt unit_posI)] at hhi
 unfold floatToIntVal
 have h' : (FloatKind.f64.decode x).toInt .zero = some (u / unit) := h
 rw [h']
 have b1 : IntKind.i64.min = -9223372036854775808 := rfl
 have b2 : IntKind.i64.max = 9223372036854775807 := rfl
 simp only [b1, b2]
 rw [if_pos ⟨by omega, by omega⟩]
theorem decode_eq (x : Nat) : FloatKind.f64.decode x = Ieee.double.read x := rfl
attribute [local irreducible] FloatKind.decode in
theorem trunc_run (x : Nat) (u : Int) (h : un x = some u) (h0 : 0 ≤ u) (h1 : u ≤ 999999999 * unit) :
  ∃ y, un y = some (u / unit * unit) ∧ ∀ w, Sem.run Tryz.prog (callFunc 140 #[.float .f64 x]) w = .ok (.value (.float .f64 y)) w := by
 obtain ⟨s, m, p, hr, _, _⟩ := un_some h
 refine ⟨_, (un_trunc h h0 (below53 h1)).1, fun w => ?_⟩
 rw [run_callFunc_extern Tryz.func140 (by kernel_rfl) (by kernel_rfl) (by kernel_rfl) (e := Extern.MathFloor.toIntegral "math.archTrunc" .zero) (by kernel_rfl)]
 have hd : FloatKind.f64.decode x = .number s m p := (decode_eq x).trans hr
 have hT : Extern.MathFloor.toIntegral "math.archTrunc" .zero #[.float .f64 x] = pure (.float .f64 (FloatKind.f64.encode ((Ieee.Datum.number s m p).integral .zero))) := by
  conv => lhs; whnf
  rw [hd]
 rw [hT, hr]
 rfl
theorem none_code (w : World) : Calls Tryz.prog 49 #[] w fun e w' => e = .returned (.complex .f64 NEGB NEGB) ∧ w = w' := by
 go_enter Tryz.func49, Tryz.ntmps49
 go_wp2
 go_ret
 exact ⟨rfl, rfl⟩
theorem isWhole_yes (x : Nat) (u : Int) (w : World) (h : un x = some u) (h0 : 0 ≤ u) (h1 : u ≤ 999999999 * unit) (hz : u % unit = 0) :
  Calls Tryz.prog 86 #[.float .f64 x] w fun e w' => e = .returned (.bool true) ∧ w = w' := by
 obtain ⟨y, hy, hrun⟩ := trunc_run x u h h0 h1
 have ho := (cut_order h hy).1 hz
 clear h h0 h1 hz hy
 go_enter Tryz.func86, Tryz.ntmps86
 go_wp2
 go_ret
 exact ⟨rfl, rfl⟩
theorem isWhole_no (x : Nat) (u : Int) (w : World) (h : un x = some u) (h0 : 0 ≤ u) (h1 : u ≤ 999999999 * unit) (hz : u % unit ≠ 0) :
  Calls Tryz.prog 86 #[.float .f64 x] w fun e w' => e = .returned (.bool false) ∧ w = w' := by
 obtain ⟨y, hy, hrun⟩ := trunc_run x u h h0 h1
 have ho := (cut_order h hy).2 hz
 clear h h0 h1 hz hy
 go_enter Tryz.func86, Tryz.ntmps86
 go_wp2
 go_ret
 exact ⟨rfl, rfl⟩
end Go.Proofs.YtgllmhheahlpjaaGreatDoor
namespace Go.Proofs.YtgllmhheahlpjaaGreatDoor
open Go.RowKit Go.Proofs.YtgllmhheahlpjaaGreatDoor.Fl
theorem may_no (x y : Nat) (w : World) (h : sp x y = none) : Calls Tryz.prog 60 #[.complex .f64 x y] w fun e w' => e = .returned (.bool false) ∧ w = w' := by
 by_cases g0 : geB x 0 = true
 ·by_cases g1 : leB x y = true
  ·by_cases g2 : leB y MAXB = true
   ·obtain ⟨u, v, hu, hv, b0, b1, b2⟩ := un_pair g0 g1 g2
    have q0 : (FloatKind.f64.format.order x 0 == some .gt || FloatKind.f64.format.order x 0 == some .eq) = true := g0
    have q1 : (FloatKind.f64.format.order x y == some .lt || FloatKind.f64.format.order x y == some .eq) = true := g1
    have q2 : (FloatKind.f64.format.order y 4741671816358002688 == some .lt || FloatKind.f64.format.order y 4741671816358002688 == some .eq) = true := g2
    have bu : u ≤ 999999999 * unit := Int.le_trans b1 b2
    have bv : 0 ≤ v := Int.le_trans b0 b1
    by_cases zu : u % unit = 0
    ·have zv : v % unit ≠ 0 := by
      intro zv
      rw [sp_yes hu hv b0 b1 b2 zu zv] at h; cases h
     have C1 := fun w => isWhole_yes x u w hu b0 bu zu
     have C2 := fun w => isWhole_no y v w hv bv b2 zv
     clear hu hv b0 b1 b2 bu bv zu zv g0 g1 g2 h
     have H1 := Lib.hid C1; clear C1
     have H2 := Lib.hid C2; clear C2
     go_enter Tryz.func60, Tryz.ntmps60
     go_wp2_with fail
     refine (H1.out _).mono ?_; rintro e w' ⟨rfl, rfl⟩
     go_wp2_with fail
     refine (H2.out _).mono ?_; rintro e w' ⟨rfl, rfl⟩
     go_wp2
     go_ret
     exact ⟨rfl, rfl⟩
    ·have C1 := fun w => isWhole_no x u w hu b0 bu zu
     clear hu hv b0 b1 b2 bu bv zu g0 g1 g2 h
     have H1 := Lib.hid C1; clear C1
     go_enter Tryz.func60, Tryz.ntmps60
     go_wp2_with fail
     refine (H1.out _).mono ?_; rintro e w' ⟨rfl, rfl⟩
     go_wp2
     go_ret
     exact ⟨rfl, rfl⟩
   ·have q0 : (FloatKind.f64.format.order x 0 == some .gt || FloatKind.f64.format.order x 0 == some .eq) = true := g0
    have q1 : (FloatKind.f64.format.order x y == some .lt || FloatKind.f64.format.order x y == some .eq) = true := g1
    have q2 : (FloatKind.f64.format.order y 4741671816358002688 == some .lt || FloatKind.f64.format.order y 4741671816358002688 == some .eq) = false := Bool.eq_false_iff.2 g2
    clear g0 g1 g2 h
    go_enter Tryz.func60, Tryz.ntmps60
    go_wp2
    go_ret
    exact ⟨rfl, rfl⟩
  ·have q0 : (FloatKind.f64.format.order x 0 == some .gt || FloatKind.f64.format.order x 0 == some .eq) = true := g0
   have q1 : (FloatKind.f64.format.order x y == some .lt || FloatKind.f64.format.order x y == some .eq) = false := Bool.eq_false_iff.2 g1
   clear g0 g1 h
   go_enter Tryz.func60, Tryz.ntmps60
   go_wp2
   go_ret
   exact ⟨rfl, rfl⟩
 ·have q0 : (FloatKind.f64.format.order x 0 == some .gt || FloatKind.f64.format.order x 0 == some .eq) = false := Bool.eq_false_iff.2 g0
  clear g0 h
  go_enter Tryz.func60, Tryz.ntmps60
  go_wp2
  go_ret
  exact ⟨rfl, rfl⟩
theorem may_yes (x y : Nat) (m n : Int) (w : World) (h : sp x y = some (m, n)) : Calls Tryz.prog 60 #[.complex .f64 x y] w fun e w' => e = .returned (.bool true) ∧ w = w' := by
 obtain ⟨hx, hy, h0, h1, h2⟩ := sp_some h
 have g0 : geB x 0 = true := by rw [geB_val hx val_zero]; simpa using h0
 have g1 : leB x y = true := by rw [leB_val hx hy]; simpa using h1
 have g2 : leB y MAXB = true := by rw [leB_val hy val_max]; simpa using h2
 have zu : (m * unit) % (unit : Int) = 0 := Int.mul_emod_left ..
 have zv : (n * unit) % (unit : Int) = 0 := Int.mul_emod_left ..
 have p := Int.le_of_lt unit_posI
 have C1 := fun w => isWhole_yes x _ w (val_some hx) (Int.mul_nonneg h0 p) (Int.mul_le_mul_of_nonneg_right (Int.le_trans h1 h2) p) zu
 have C2 := fun w => isWhole_yes y _ w (val_some hy) (Int.mul_nonneg (Int.le_trans h0 h1) p) (Int.mul_le_mul_of_nonneg_right h2 p) zv
 have q0 : (FloatKind.f64.format.order x 0 == some .gt || FloatKind.f64.format.order x 0 == some .eq) = true := g0
 have q1 : (FloatKind.f64.format.order x y == some .lt || FloatKind.f64.format.order x y == some .eq) = true := g1
 have q2 : (FloatKind.f64.format.order y 4741671816358002688 == some .lt || FloatKind.f64.format.order y 4741671816358002688 == some .eq) = true := g2
 clear hx hy h0 h1 h2 zu zv p g0 g1 g2 h
 have H1 := Lib.hid C1; clear C1
 have H2 := Lib.hid C2; clear C2
 go_enter Tryz.func60, Tryz.ntmps60
 go_wp2_with fail
 refine (H1.out _).mono ?_; rintro e w' ⟨rfl, rfl⟩
 go_wp2_with fail
 refine (H2.out _).mono ?_; rintro e w' ⟨rfl, rfl⟩
 go_wp2
 go_ret
 exact ⟨rfl, rfl⟩
end Go.Proofs.YtgllmhheahlpjaaGreatDoor
namespace Go.Proofs.YtgllmhheahlpjaaGreatDoor
theorem wp_scope_fwd {P : Program} {a : Act} {w : World} {Q : Exit → Act → World → Prop} {c rest : Code} (l : Nat) (hf : findLabel c l = some rest)
  (first : c.wp P (Exit.jump l (fun a w => rest.wp P (Exit.noGoto Q) a w) Q) a w) : (Code.scope c).wp P Q a w := by
 refine wp_scope_jumps l (fun a w => rest.wp P (Exit.noGoto Q) a w) (fun _ _ => 0) hf first ?_
 intro a w h
 refine Code.wp_mono ?_ h
 intro e a w hq
 cases e <;> first | exact hq | exact False.elim hq
end Go.Proofs.YtgllmhheahlpjaaGreatDoor
namespace Go.Proofs.YtgllmhheahlpjaaGreatDoor
open Go.RowKit Go.Proofs.YtgllmhheahlpjaaGreatDoor.Fl
theorem conv_val {x : Nat} {m : Int} (h : val x = some m) (h0 : 0 ≤ m) (h1 : m ≤ 999999999) :
  ∀ w, Sem.run Tryz.prog (convert 91 3 (.float .f64 x)) w = .ok (.int .i64 m) w := by
 intro w
 have p := Int.le_of_lt unit_posI
 have ht := toInt_val (val_some h) (Int.mul_nonneg h0 p) (Int.mul_le_mul_of_nonneg_right h1 p)
 rw [Int.mul_ediv_cancel _ (Int.ne_of_gt unit_posI)] at ht
 exact run_convert_float_int w 91 3 .f64 .i64 x _ (by kernel_rfl) (by kernel_rfl) ht
theorem from_yes (x y : Nat) (m n : Int) (w : World) (h : sp x y = some (m, n)) : Calls Tryz.prog 36 #[.complex .f64 x y] w fun e w' => e = .returned (.int .i64 m) ∧ w = w' := by
 obtain ⟨hx, hy, h0, h1, h2⟩ := sp_some h
 have hc := conv_val hx h0 (Int.le_trans h1 h2)
 have C1 := fun w => may_yes x y m n w h
 have H1 := Lib.hid C1; clear C1 hx hy h0 h1 h2 h
 go_enter Tryz.func36, Tryz.ntmps36
 go_wp2_with fail
 go_step3
 go_wp2_with fail
 refine (H1.out _).mono ?_; rintro e w' ⟨rfl, rfl⟩
 go_wp2
 rw [Exit.noGoto_ret]
 go_ret
 exact ⟨rfl, rfl⟩
theorem from_no (x y : Nat) (w : World) (h : sp x y = none) : Calls Tryz.prog 36 #[.complex .f64 x y] w fun e w' => e = .returned (.int .i64 (-1)) ∧ w = w' := by
 have C1 := fun w => may_no x y w h
 have H1 := Lib.hid C1; clear C1 h
 go_enter Tryz.func36, Tryz.ntmps36
 go_wp2_with fail
 refine wp_scope_fwd 0 rfl ?_
 go_wp2_with fail
 refine (H1.out _).mono ?_; rintro e w' ⟨rfl, rfl⟩
 go_wp2
 go_step3
 refine ⟨rfl, ?_⟩
 change Code.wp _ _ _ _ _
 go_wp2
 rw [Exit.noGoto_ret]
 go_ret
 exact ⟨rfl, rfl⟩
theorem to_yes (x y : Nat) (m n : Int) (w : World) (h : sp x y = some (m, n)) : Calls Tryz.prog 37 #[.complex .f64 x y] w fun e w' => e = .returned (.int .i64 n) ∧ w = w' := by
 obtain ⟨hx, hy, h0, h1, h2⟩ := sp_some h
 have hc := conv_val hy (Int.le_trans h0 h1) h2
 have C1 := fun w => may_yes x y m n w h
 have H1 := Lib.hid C1; clear C1 hx hy h0 h1 h2 h
 go_enter Tryz.func37, Tryz.ntmps37
 go_wp2_with fail
 go_step3
 go_wp2_with fail
 refine (H1.out _).mono ?_; rintro e w' ⟨rfl, rfl⟩
 go_wp2
 rw [Exit.noGoto_ret]
 go_ret
 exact ⟨rfl, rfl⟩
theorem to_no (x y : Nat) (w : World) (h : sp x y = none) : Calls Tryz.prog 37 #[.complex .f64 x y] w fun e w' => e = .returned (.int .i64 (-1)) ∧ w = w' := by
 have C1 := fun w => may_no x y w h
 have H1 := Lib.hid C1; clear C1 h
 go_enter Tryz.func37, Tryz.ntmps37
 go_wp2_with fail
 refine wp_scope_fwd 0 rfl ?_
 go_wp2_with fail
 refine (H1.out _).mono ?_; rintro e w' ⟨rfl, rfl⟩
 go_wp2
 go_step3
 refine ⟨rfl, ?_⟩
 change Code.wp _ _ _ _ _
 go_wp2
 rw [Exit.noGoto_ret]
 go_ret
 exact ⟨rfl, rfl⟩
theorem len_yes (x y : Nat) (m n : Int) (w : World) (h : sp x y = some (m, n)) : Calls Tryz.prog 38 #[.complex .f64 x y] w fun e w' => e = .returned (.int .i64 (n - m)) ∧ w = w' := by
 obtain ⟨_, _, h0, h1, h2⟩ := sp_some h
 have H1 := Lib.hid (fun w => to_yes x y m n w h)
 have H2 := Lib.hid (fun w => from_yes x y m n w h)
 clear h
 have b0 : 0 ≤ n := Int.le_trans h0 h1
 have b1 : m ≤ 999999999 := Int.le_trans h1 h2
 go_enter Tryz.func38, Tryz.ntmps38
 go_wp2_with fail
 refine (H1.out _).mono ?_; rintro e w' ⟨rfl, rfl⟩
 go_wp2_with fail
 refine (H2.out _).mono ?_; rintro e w' ⟨rfl, rfl⟩
 go_wp2
 go_ret
 exact ⟨rfl, rfl⟩
theorem len_no (x y : Nat) (w : World) (h : sp x y = none) : Calls Tryz.prog 38 #[.complex .f64 x y] w fun e w' => e = .returned (.int .i64 0) ∧ w = w' := by
 have H1 := Lib.hid (fun w => to_no x y w h)
 have H2 := Lib.hid (fun w => from_no x y w h)
 clear h
 go_enter Tryz.func38, Tryz.ntmps38
 go_wp2_with fail
 refine (H1.out _).mono ?_; rintro e w' ⟨rfl, rfl⟩
 go_wp2_with fail
 refine (H2.out _).mono ?_; rintro e w' ⟨rfl, rfl⟩
 go_wp2
 go_ret
 exact ⟨rfl, rfl⟩
theorem of_yes (a b : Int) (w : World) (h0 : 0 ≤ a) (h1 : a ≤ b) (h2 : b ≤ 999999999) :
  Calls Tryz.prog 73 #[.int .i64 a, .int .i64 b] w fun e w' => e = .returned (.tuple #[.complex .f64 (floatOfInt .f64 a) (floatOfInt .f64 b), .bool true]) ∧ w = w' := by
 have q0 : ¬ a < 0 := by omega
 have q1 : ¬ b < a := by omega
 have q2 : ¬ 999999999 < b := by omega
 go_enter Tryz.func73, Tryz.ntmps73
 go_wp2_with fail
 go_step3
 go_wp2
 rw [Exit.noGoto_ret]
 go_ret2
 exact ⟨rfl, rfl⟩
end Go.Proofs.YtgllmhheahlpjaaGreatDoor
