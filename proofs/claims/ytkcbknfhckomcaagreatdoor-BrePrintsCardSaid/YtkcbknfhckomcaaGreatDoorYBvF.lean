/- The reference's Times. -/
import Derived.Test.YtkcbknfhckomcaaGreatDoorYBvD
import Derived.Deep.DeepCutAuto
set_option linter.unusedVariables false
set_option linter.unusedSimpArgs false
set_option maxRecDepth 100000
set_option maxHeartbeats 40000000
namespace Go.Proofs.YtkcbknfhckomcaaGreatDoor
open Go.RowKit Go.Lib
def hiU (s : List UInt8) (i : Nat) : Int × Nat :=
 if ah s (numP s i).2.2 [44] then (if (numP s ((numP s i).2.2 + 1)).2.1 then ((numP s ((numP s i).2.2 + 1)).1, (numP s ((numP s i).2.2 + 1)).2.2) else (-1, (numP s i).2.2 + 1)) else ((numP s i).1, (numP s i).2.2)
def timesU (s : List UInt8) (i : Nat) (E : List UInt8) : Option (Int × Int × Nat) :=
 if (numP s i).2.1 = false then none else
 if ah s (hiU s i).2 E = false ∨ 255 < (numP s i).1 ∨ 255 < (hiU s i).1 ∨ (0 ≤ (hiU s i).1 ∧ (hiU s i).1 < (numP s i).1) ∨ (hiU s i).1 = 0 then none
 else some ((numP s i).1, (hiU s i).1, (hiU s i).2 + E.length)
def TmOut (r : Option (Int × Int × Nat)) (e : Ending) : Prop := match r with
 | none => e = .returned (.tuple #[.int .i64 0, .int .i64 0, .int .i64 (-1)])
 | some (a, b, k) => e = .returned (.tuple #[.int .i64 a, .int .i64 b, .int .i64 (k : Int)])
theorem TmOut.no {r : Option (Int × Int × Nat)} (h : r = none) : TmOut r (.returned (.tuple #[.int .i64 0, .int .i64 0, .int .i64 (-1)])) := by rw [h]; rfl
theorem TmOut.yes {r : Option (Int × Int × Nat)} {a b k : Int} {m : Nat} (h : r = some (a, b, m)) (hk : k = (m : Int)) : TmOut r (.returned (.tuple #[.int .i64 a, .int .i64 b, .int .i64 k])) := by rw [h, hk]; rfl
theorem digsP_le (s : List UInt8) (i : Nat) : (digsP s i).length ≤ 3 ∧ (i ≤ s.length → i + (digsP s i).length ≤ s.length) := by
 have h1 : (digsP s i).length ≤ ((s.drop i).take 3).length := (List.takeWhile_prefix _).length_le
 rw [List.length_take, List.length_drop] at h1
 omega
theorem valP_lt (l : List UInt8) (h : ∀ c ∈ l, isDig c = true) : ∀ n : Nat, l.foldl (fun n b => n * 10 + (b.toNat - 48)) n < (n + 1) * 10 ^ l.length := by
 induction l with
 | nil => intro n; simp
 | cons c l ih =>
  intro n
  have hc := h c (List.mem_cons_self ..)
  unfold isDig at hc
  rw [Bool.and_eq_true, decide_eq_true_eq, decide_eq_true_eq] at hc
  have := ih (fun d hd => h d (List.mem_cons_of_mem _ hd)) (n * 10 + (c.toNat - 48))
  rw [List.foldl_cons, List.length_cons, Nat.pow_succ]
  refine Nat.lt_of_lt_of_le this ?_
  rw [Nat.mul_comm (10 ^ l.length) 10, ← Nat.mul_assoc]
  exact Nat.mul_le_mul_right _ (by omega)
theorem tw_mem (p : UInt8 → Bool) : ∀ (l : List UInt8), ∀ c ∈ l.takeWhile p, p c = true
 | [], c, h => by cases h
 | a :: l, c, h => by
  rw [List.takeWhile_cons] at h
  by_cases ha : p a = true
  ·rw [if_pos ha, List.mem_cons] at h
   rcases h with rfl | h
   ·exact ha
   ·exact tw_mem p l c h
  ·rw [if_neg ha] at h; cases h
theorem numP_lt (s : List UInt8) (i : Nat) : 0 ≤ (numP s i).1 ∧ (numP s i).1 < 1000 ∧ (i ≤ s.length → (numP s i).2.2 ≤ s.length) := by
 have h1 := valP_lt (digsP s i) (fun c hc => tw_mem isDig _ c hc) 0
 have h2 := digsP_le s i
 have h3 : 10 ^ (digsP s i).length ≤ 10 ^ 3 := Nat.pow_le_pow_right (by omega) h2.1
 have h4 : (10 : Nat) ^ 3 = 1000 := by decide
 unfold numP valP
 refine ⟨by simp, ?_, fun h => h2.2 h⟩
 simp only
 omega
theorem timesU_bre (s : List UInt8) (hs : s.length ≤ 100000) (i : Nat) (hi : i ≤ s.length) (w : World) :
  Calls Tryz.prog 79 #[.string ⟨s.toArray⟩, .int .i64 (i : Int), .string ⟨#[92, 125]⟩] w fun e w' => TmOut (timesU s i [92, 125]) e ∧ w' = w := by
 have hsz : (⟨s.toArray⟩ : ByteArray).size = s.length := by simp [ByteArray.size]
 have hd := digitsU_c s hs i hi w
 obtain ⟨R, hR⟩ : ∃ R, R = timesU s i [92, 125] := ⟨_, rfl⟩
 rw [← hR]
 have HR := Lib.hid hR
 clear hR
 cases hn : (numP s i).2.1 with
 | false =>
  have hR2 : Hid (R = none) := Lib.hid (HR.out.trans (by unfold timesU; rw [if_pos hn]))
  unfold digU at hd
  rw [hn] at hd
  simp only [Bool.false_eq_true, if_false] at hd
  have HD := Lib.hid hd
  clear hd HR hn
  go_enter Tryz.func79, Tryz.ntmps79
  go_wp2_with fail
  refine HD.out.mono ?_
  rintro e w1 ⟨rfl, hw1⟩
  subst hw1
  go_wp2
  refine bodyPost_ret (v := .tuple #[.int .i64 0, .int .i64 0, .int .i64 (-1)]) (by simp [results, Tryz.results79, go_sem]) rfl ?_
  exact ⟨TmOut.no hR2.out, rfl⟩
 | true =>
  obtain ⟨h0, h1, h2⟩ := numP_lt s i
  unfold digU at hd
  rw [hn] at hd
  simp only [if_true] at hd
  have hR1 : R = if ah s (hiU s i).2 [92, 125] = false ∨ 255 < (numP s i).1 ∨ 255 < (hiU s i).1 ∨ (0 ≤ (hiU s i).1 ∧ (hiU s i).1 < (numP s i).1) ∨ (hiU s i).1 = 0 then none
    else some ((numP s i).1, (hiU s i).1, (hiU s i).2 + 2) := HR.out.trans (by unfold timesU; rw [if_neg (by rw [hn]; decide)]; rfl)
  obtain ⟨y, hy⟩ : ∃ y, y = hiU s i := ⟨_, rfl⟩
  rw [← hy] at hR1
  unfold hiU at hy
  have hx := numP_lt s ((numP s i).2.2 + 1)
  obtain ⟨a, n1, k, ha⟩ : ∃ a n1 k, numP s i = (a, n1, k) := ⟨_, _, _, rfl⟩
  rw [ha] at h0 h1 h2 hd hR1 hy hx
  simp only at h0 h1 h2 hd hR1 hy hx
  have hk := h2 hi
  have HD := Lib.hid hd
  have HR1 := Lib.hid hR1
  have HY := Lib.hid hy
  have g0 : ((k : Int) < 0) = False := by simp
  have ew1 : IntKind.i64.wrap ((k : Int) + 1) = (k : Int) + 1 := by simp [IntKind.wrap, IntKind.signed, IntKind.bits]; omega
  clear hd hR1 hy HR h2 ha hn
  obtain ⟨cm, hcm⟩ : ∃ c, c = ah s k [44] := ⟨_, rfl⟩
  have HC := Lib.hid hcm
  clear hcm
  go_enter Tryz.func79, Tryz.ntmps79
  go_upto_region 1 with fail
  go_upto_region 5 with (fail)
  refine HD.out.mono ?_
  rintro e w1 ⟨rfl, hw1⟩
  subst hw1
  clear HD
  go_upto_region 5 with fail
  go_cut [32] (fun v wx => v = .bool cm ∧ wx = w1)
  case first =>
   clear HR1 HY hx
   by_cases hlt : k < s.length
   ·have g1 : ((k : Int) < s.length) = True := by simp; omega
    obtain ⟨c, hc⟩ : ∃ c, s[k]? = some c := ⟨_, List.getElem?_eq_getElem hlt⟩
    have xk := fun W => ixm_c s k c hc W
    by_cases k44 : c = 44
    ·subst k44
     obtain rfl : cm = true := HC.out.trans (by rw [ah_one, hc]; rfl)
     clear HC hc
     go_wp2_with fail
     go_meet
     exact ⟨rfl, rfl⟩
    ·have c44 : ((c.toNat : Int) == 44) = false := u8_ne (d := 44) k44
     obtain rfl : cm = false := HC.out.trans (by rw [ah_one, hc]; simpa using k44)
     clear HC hc k44
     generalize c.toNat = C at *
     go_wp2_with fail
     go_meet
     exact ⟨rfl, rfl⟩
   ·have g1 : ((k : Int) < s.length) = False := by simp; omega
    obtain rfl : cm = false := HC.out.trans (by rw [ah_one, List.getElem?_eq_none (by omega)]; rfl)
    clear HC
    go_wp2_with fail
    go_meet
    exact ⟨rfl, rfl⟩
  case rest =>
   obtain ⟨rfl, hwc⟩ := hcut
   subst hwc
   go_upto_if 32 with fail
   obtain ⟨wq, hwq⟩ : ∃ wq, wq = wc := ⟨_, rfl⟩
   go_cut [10, 11] (fun kv bv wx => kv = .int .i64 (y.2 : Int) ∧ bv = .int .i64 y.1 ∧ wx = wq)
   case first =>
    cases cm with
    | false =>
     obtain rfl : y = (a, k) := HY.out.trans (by rw [← HC.out]; rfl)
     clear HY HR1 HC
     go_wp2_with fail
     go_meet
     exact ⟨rfl, rfl, hwq.symm⟩
    | true =>
     have hkl := ah_le HC.out.symm
     simp only [List.length_cons, List.length_nil] at hkl
     have hk1 : k + 1 ≤ s.length := by
      rcases hkl with h | h
      ·omega
      ·cases h
     have hd2 : ∀ w, Calls Tryz.prog 105 #[.string ⟨s.toArray⟩, .int .i64 ((k : Int) + 1)] w fun r w' => r = .returned (.tuple #[.int .i64 (digU s (k + 1)).1, .int .i64 (digU s (k + 1)).2]) ∧ w' = w := fun w => by simpa using digitsU_c s hs (k + 1) hk1 w
     have hy2 := HY.out
     rw [← HC.out, if_pos rfl] at hy2
     unfold digU at hd2
     cases hn2 : (numP s (k + 1)).2.1 with
     | false =>
      rw [hn2] at hd2 hy2
      simp only [Bool.false_eq_true, if_false] at hd2 hy2
      subst hy2
      have HD := Lib.hid hd2
      clear hd2 HY HR1 HC hkl hn2
      go_wp2_with fail
      refine (HD.out _).mono ?_
      rintro e w2 ⟨rfl, hw2⟩
      subst hw2
      go_wp2
      go_meet
      exact ⟨by simp, rfl, hwq.symm⟩
     | true =>
      rw [hn2] at hd2 hy2
      simp only [if_true] at hd2 hy2
      obtain ⟨x1, x2⟩ := hx
      obtain ⟨a2, n2, k2, ha2⟩ : ∃ a n m, numP s (k + 1) = (a, n, m) := ⟨_, _, _, rfl⟩
      rw [ha2] at hd2 hy2
      simp only at hd2 hy2
      subst hy2
      have HD := Lib.hid hd2
      have g2 : ((0 : Int) ≤ k2) = True := by simp
      clear hd2 HY HR1 HC hkl hn2 ha2 x1 x2
      go_wp2_with fail
      refine (HD.out _).mono ?_
      rintro e w2 ⟨rfl, hw2⟩
      subst hw2
      go_wp2
      go_meet
      exact ⟨rfl, rfl, hwq.symm⟩
   case rest =>
    obtain ⟨rfl, rfl, hwc⟩ := hcut
    have hy2l : y.2 ≤ s.length := by
     have hy := HY.out
     cases cm with
     | false => rw [← HC.out] at hy; rw [if_neg (by decide)] at hy; rw [hy]; exact hk
     | true =>
      have hkl := ah_le HC.out.symm
      simp only [List.length_cons, List.length_nil] at hkl
      have hk1 : k + 1 ≤ s.length := by
       rcases hkl with h | h
       ·omega
       ·cases h
      rw [← HC.out, if_pos rfl] at hy
      rw [hy]
      split
      ·exact hx.2.2 hk1
      ·exact hk1
    have hy1l : -1 ≤ y.1 ∧ y.1 < 1000 := by
     have hy := HY.out
     cases cm with
     | false => rw [← HC.out] at hy; rw [if_neg (by decide)] at hy; rw [hy]; simp only; omega
     | true =>
      rw [← HC.out, if_pos rfl] at hy
      rw [hy]
      split
      ·simp only; omega
      ·simp
    obtain ⟨b, m⟩ := y
    simp only at hy1l hy2l HR1 ⊢
    subst hwc
    subst hwq
    clear HY HC hx ew1 g0 hk
    by_cases l1 : s.length < m + 2
    ·have q1 : ((s.length : Int) < (m : Int) + 2) = True := by simp; omega
     have ewm : IntKind.i64.wrap ((m : Int) + 2) = (m : Int) + 2 := by simp [IntKind.wrap, IntKind.signed, IntKind.bits]; omega
     have hq0 : ah s m [92, 125] = false := by
      cases h : ah s m [92, 125] with
      | false => rfl
      | true =>
       rcases ah_le h with t | t
       ·simp only [List.length_cons, List.length_nil] at t; omega
       ·cases t
     have hR2 : Hid (R = none) := Lib.hid (HR1.out.trans (if_pos (.inl hq0)))
     clear HR1
     go_wp2_with fail
     refine bodyPost_ret (v := .tuple #[.int .i64 0, .int .i64 0, .int .i64 (-1)]) (by simp [results, Tryz.results79, go_sem]) rfl ?_
     exact ⟨TmOut.no hR2.out, rfl⟩
    ·have q1 : ((s.length : Int) < (m : Int) + 2) = False := by simp; omega
     have ewm : IntKind.i64.wrap ((m : Int) + 2) = (m : Int) + 2 := by simp [IntKind.wrap, IntKind.signed, IntKind.bits]; omega
     have xs := fun W => sl2_c s m (by omega) W
     have hq := two_eq s m 92 125
     generalize (⟨((s.drop m).take 2).toArray⟩ : ByteArray) = X at *
     cases hq0 : ah s m [92, 125] with
     | false =>
      rw [hq0] at hq
      have hR2 : Hid (R = none) := Lib.hid (HR1.out.trans (if_pos (.inl hq0)))
      clear HR1
      go_wp2_with fail
      refine bodyPost_ret (v := .tuple #[.int .i64 0, .int .i64 0, .int .i64 (-1)]) (by simp [results, Tryz.results79, go_sem]) rfl ?_
      exact ⟨TmOut.no hR2.out, rfl⟩
     | true =>
      rw [hq0] at hq
      by_cases l2 : 255 < a
      ·have q2 : ((255 : Int) < a) = True := by simp; omega
       have hR2 : Hid (R = none) := Lib.hid (HR1.out.trans (if_pos (.inr (.inl l2))))
       clear HR1
       go_wp2_with fail
       refine bodyPost_ret (v := .tuple #[.int .i64 0, .int .i64 0, .int .i64 (-1)]) (by simp [results, Tryz.results79, go_sem]) rfl ?_
       exact ⟨TmOut.no hR2.out, rfl⟩
      ·have q2 : ((255 : Int) < a) = False := by simp; omega
       by_cases l3 : 255 < b
       ·have q3 : ((255 : Int) < b) = True := by simp; omega
        have hR2 : Hid (R = none) := Lib.hid (HR1.out.trans (if_pos (.inr (.inr (.inl l3)))))
        clear HR1
        go_wp2_with fail
        refine bodyPost_ret (v := .tuple #[.int .i64 0, .int .i64 0, .int .i64 (-1)]) (by simp [results, Tryz.results79, go_sem]) rfl ?_
        exact ⟨TmOut.no hR2.out, rfl⟩
       ·have q3 : ((255 : Int) < b) = False := by simp; omega
        by_cases l4 : 0 ≤ b
        ·have q4 : ((0 : Int) ≤ b) = True := by simp; omega
         by_cases l5 : b < a
         ·have q5 : ((b : Int) < a) = True := by simp; omega
          have hR2 : Hid (R = none) := Lib.hid (HR1.out.trans (if_pos (.inr (.inr (.inr (.inl ⟨l4, l5⟩))))))
          clear HR1
          go_wp2_with fail
          refine bodyPost_ret (v := .tuple #[.int .i64 0, .int .i64 0, .int .i64 (-1)]) (by simp [results, Tryz.results79, go_sem]) rfl ?_
          exact ⟨TmOut.no hR2.out, rfl⟩
         ·have q5 : ((b : Int) < a) = False := by simp; omega
          by_cases l6 : b = 0
          ·have q6 : ((b : Int) == 0) = true := by simp; omega
           have hR2 : Hid (R = none) := Lib.hid (HR1.out.trans (if_pos (.inr (.inr (.inr (.inr l6))))))
           clear HR1
           go_wp2_with fail
           refine bodyPost_ret (v := .tuple #[.int .i64 0, .int .i64 0, .int .i64 (-1)]) (by simp [results, Tryz.results79, go_sem]) rfl ?_
           exact ⟨TmOut.no hR2.out, rfl⟩
          ·have q6 : ((b : Int) == 0) = false := by rw [beq_eq_false_iff_ne]; omega
           have hR2 : Hid (R = some (a, b, m + 2)) := Lib.hid (HR1.out.trans (if_neg (by
            rintro (h | h | h | h | h)
            ·rw [hq0] at h; cases h
            ·omega
            ·omega
            ·omega
            ·omega)))
           clear HR1 hq0
           go_wp2_with fail
           refine bodyPost_ret (v := .tuple #[.int .i64 a, .int .i64 b, .int .i64 ((m : Int) + 2)]) (by simp [results, Tryz.results79, go_sem]) rfl ?_
           exact ⟨TmOut.yes hR2.out (by simp), rfl⟩
        ·have q4 : ((0 : Int) ≤ b) = False := by simp; omega
         have q6 : ((b : Int) == 0) = false := by rw [beq_eq_false_iff_ne]; omega
         have hR2 : Hid (R = some (a, b, m + 2)) := Lib.hid (HR1.out.trans (if_neg (by
          rintro (h | h | h | h | h)
          ·rw [hq0] at h; cases h
          ·omega
          ·omega
          ·omega
          ·omega)))
         clear HR1 hq0
         go_wp2_with fail
         refine bodyPost_ret (v := .tuple #[.int .i64 a, .int .i64 b, .int .i64 ((m : Int) + 2)]) (by simp [results, Tryz.results79, go_sem]) rfl ?_
         exact ⟨TmOut.yes hR2.out (by simp), rfl⟩
end Go.Proofs.YtkcbknfhckomcaaGreatDoor
namespace Go.Proofs.YtkcbknfhckomcaaGreatDoor
open Go.RowKit
theorem count_fin (s : List UInt8) (a b : Int) (m : Nat) (hb : -1 ≤ b) : (if (!ah s m [92, 125] || !isCountP a b) = true then none else some (a, b, m + 2)) =
  (if ah s m [92, 125] = false ∨ 255 < a ∨ 255 < b ∨ (0 ≤ b ∧ b < a) ∨ b = 0 then none else some (a, b, m + [(92 : UInt8), 125].length)) := by
 have hc : (isCountP a b = true) ↔ ¬ (255 < a ∨ 255 < b ∨ (0 ≤ b ∧ b < a) ∨ b = 0) := by
  unfold isCountP
  by_cases h255 : 255 < a
  ·rw [if_pos h255]; simp [h255]
  ·rw [if_neg h255]
   simp only [Bool.or_eq_true, Bool.and_eq_true, decide_eq_true_eq]
   omega
 cases hm : ah s m [92, 125] with
 | false => simp
 | true =>
  by_cases hq : 255 < a ∨ 255 < b ∨ (0 ≤ b ∧ b < a) ∨ b = 0
  ·have h1 : isCountP a b = false := by
    cases h : isCountP a b with
    | false => rfl
    | true => exact absurd hq (hc.1 h)
   rw [h1, if_pos (by decide), if_pos (.inr hq)]
  ·rw [hc.2 hq, if_neg (by decide), if_neg (by rintro (h | h); cases h; exact hq h)]
   rfl
theorem timesU_P (s : List UInt8) (i : Nat) (h42 : ah s i [42] = false) (h92 : ah s i [92, 123] = true) : timesP s i = timesU s (i + 2) [92, 125] := by
 have hsk : sk s i [92, 123] = i + 2 := by unfold sk; rw [if_pos h92]; rfl
 unfold timesP timesU hiU
 rw [if_neg (by rw [h42]; decide), hsk]
 simp only
 have hb := numP_lt s (i + 2)
 have hx := numP_lt s ((numP s (i + 2)).2.2 + 1)
 obtain ⟨a, ok, k, ha⟩ : ∃ a ok k, numP s (i + 2) = (a, ok, k) := ⟨_, _, _, rfl⟩
 rw [ha] at hb hx ⊢
 simp only at hb hx ⊢
 cases ok with
 | false => simp
 | true =>
  simp only [Bool.not_true, Bool.false_or, Bool.true_eq_false, if_false]
  by_cases h44 : ah s k [44] = true
  ·rw [if_pos h44, if_pos h44]
   by_cases hc : ah s (k + 1) [92, 125] = true
   ·have hd : (numP s (k + 1)).2.1 = false := by
     rw [ah_two, Bool.and_eq_true, beq_iff_eq, beq_iff_eq] at hc
     obtain ⟨hk1, hk2⟩ := List.getElem?_eq_some_iff.1 hc.1
     have : digsP s (k + 1) = [] := by
      unfold digsP
      rw [List.drop_eq_getElem_cons hk1, hk2, List.take_succ_cons, List.takeWhile_cons, if_neg (by decide)]
     unfold numP
     simp [this]
    rw [if_pos hc, hd]
    simp only [Bool.false_eq_true, if_false, Bool.not_true, Bool.false_or]
    exact count_fin s a (-1) (k + 1) (by decide)
   ·have hcf : ah s (k + 1) [92, 125] = false := by simpa using hc
    rw [if_neg hc]
    obtain ⟨x, okx, m, hxm⟩ : ∃ x ok m, numP s (k + 1) = (x, ok, m) := ⟨_, _, _, rfl⟩
    rw [hxm] at hx ⊢
    simp only at hx ⊢
    cases okx with
    | false => simp [hcf]
    | true =>
     simp only [Bool.not_true, Bool.false_or, if_true]
     exact count_fin s a x m (by omega)
  ·rw [if_neg h44, if_neg h44]
   simp only [Bool.not_true, Bool.false_or]
   exact count_fin s a a k (by omega)
structure URGo (s : List UInt8) (g : Nat) (row : BRd → Except Er BRd) : Prop where
 er : ∀ r, r.p ≤ s.length → r.g = g → ∀ e, row r = .error e → e.1 ≠ 0
 ok : ∀ r, r.p ≤ s.length → r.g = g → ∀ q, row r = .ok q → r.p ≤ q.p ∧ q.p ≤ s.length ∧ q.l.length ≤ r.l.length + 3 * (q.p - r.p) ∧ r.l.length ≤ q.l.length ∧ g ≤ q.g ∧ q.g ≤ 9 ∧ endsP s q.p = true
structure UGo (s : List UInt8) (r q : BRd) : Prop where
 p : r.p < q.p
 e : q.p ≤ s.length
 l : q.l.length + 2 ≤ r.l.length + 3 * (q.p - r.p)
 l1 : r.l.length < q.l.length
 g : r.g ≤ q.g
 g9 : q.g ≤ 9
section
variable {s : List UInt8} {row : BRd → Except Er BRd}
theorem grpU_goes {r : BRd} {a : Nat} (hp : r.p ≤ s.length) (hp1 : 1 ≤ r.p) (hg : r.g ≤ 9) (hrow : r.g < 9 → URGo s (r.g + 1) row) :
  (∀ e, grpU s row r a = .error e → e.1 ≠ 0) ∧ (∀ q, grpU s row r a = .ok q → UGo s (r.to (r.p - 1)) q) := by
 unfold grpU
 split
 ·exact ⟨fun e h => (by cases h; simp), fun q h => by cases h⟩
 ·rename_i hne
  have R := hrow (by omega)
  split
  ·rename_i e he
   exact ⟨fun e' h => by cases h; exact R.er { r with g := r.g + 1 } hp rfl e he, fun q h => by cases h⟩
  ·rename_i q hq
   have O := R.ok { r with g := r.g + 1 } hp rfl q hq
   simp only at O
   split
   ·exact ⟨fun e h => (by cases h; simp), fun q h => by cases h⟩
   ·rename_i hh
    simp only [not_or] at hh
    have hend := O.2.2.2.2.2.2
    unfold endsP at hend
    rw [Bool.or_eq_true, decide_eq_true_eq] at hend
    have h2 : q.p + 2 ≤ s.length := by
     rcases hend with t | t
     ·exact absurd t hh.1
     ·rcases ah_le t with t | t
      ·exact t
      ·cases t
    refine ⟨fun e h => (by cases h), fun q' h => ?_⟩
    cases h
    refine ⟨?_, h2, ?_, ?_, ?_, O.2.2.2.2.2.1⟩
    ·show r.p - 1 < q.p + 2; omega
    ·show (q.l ++ [_]).length + 2 ≤ r.l.length + 3 * (q.p + 2 - (r.p - 1))
     rw [List.length_append, List.length_singleton]; omega
    ·show r.l.length < (q.l ++ [_]).length
     rw [List.length_append, List.length_singleton]; omega
    ·show r.g ≤ q.g; omega
theorem leafU_goes {r : BRd} {k : Nat} (x : Nd) (hp : r.p < k) (he : k ≤ s.length) (hg : r.g ≤ 9) : UGo s r ((r.to k).pu x) :=
 ⟨hp, he, by
  show (r.l ++ [x]).length + 2 ≤ r.l.length + 3 * (k - r.p)
  rw [List.length_append, List.length_singleton]; omega, by
  show r.l.length < (r.l ++ [x]).length
  rw [List.length_append, List.length_singleton]; omega, Nat.le_refl _, hg⟩
theorem escU_goes {r : BRd} {first : Bool} (hp : r.p ≤ s.length) (hg : r.g ≤ 9) (hrow : r.g < 9 → URGo s (r.g + 1) row) :
  (∀ e, escU s row r first = .error e → e.1 ≠ 0) ∧ (∀ q, escU s row r first = .ok q → UGo s r q) := by
 unfold escU
 split
 ·exact ⟨fun e h => (by cases h; simp), fun q h => by cases h⟩
 ·rename_i d hd
  have hlt := (List.getElem?_eq_some_iff.1 hd).1
  have base : ∀ x q, Except.ok (ε := Er) ((r.to (r.p + 2)).pu x) = .ok q → UGo s r q := fun x q h => by
   cases h; exact leafU_goes x (by omega) hlt hg
  split
  ·have G := grpU_goes (s := s) (row := row) (r := r.to (r.p + 2)) (a := r.p) hlt (by show 1 ≤ r.p + 2; omega) hg hrow
   refine ⟨G.1, fun q h => ?_⟩
   have u := G.2 q h
   refine ⟨?_, u.e, ?_, u.l1, u.g, u.g9⟩
   ·have := u.p
    have : r.p + 2 - 1 < q.p := this
    omega
   ·have := u.l
    have h1 : r.p + 2 - 1 < q.p := u.p
    have : q.l.length + 2 ≤ r.l.length + 3 * (q.p - (r.p + 2 - 1)) := this
    omega
  split
  ·split
   ·exact ⟨fun e h => (by cases h; simp), fun q h => by cases h⟩
   ·exact ⟨fun e h => (by cases h), base _⟩
  split
  ·exact ⟨fun e h => (by cases h), base _⟩
  split
  ·exact ⟨fun e h => (by cases h), base _⟩
  split
  ·exact ⟨fun e h => (by cases h; simp), fun q h => by cases h⟩
  ·exact ⟨fun e h => (by cases h; simp), fun q h => by cases h⟩
theorem atomU_goes {r : BRd} {first : Bool} (hp : r.p < s.length) (hg : r.g ≤ 9) (hrow : r.g < 9 → URGo s (r.g + 1) row) :
  (∀ e, atomU s row r first = .error e → e.1 ≠ 0) ∧ (∀ q, atomU s row r first = .ok q → UGo s r q) := by
 unfold atomU
 split
 ·rename_i h; rw [List.getElem?_eq_none_iff] at h; omega
 ·rename_i b hb
  split
  ·exact ⟨fun e h => (by cases h), fun q h => by cases h; exact leafU_goes _ (by omega) hp hg⟩
  split
  ·split
   ·exact ⟨fun e h => (by cases h; simp), fun q h => by cases h⟩
   ·rename_i F n hbr
    have := brkP_le hbr
    rw [List.length_drop] at this
    simp only at this
    exact ⟨fun e h => (by cases h), fun q h => by cases h; exact leafU_goes _ (by omega) (by omega) hg⟩
  split
  ·exact escU_goes (by omega) hg hrow
  ·exact ⟨fun e h => (by cases h), fun q h => by cases h; exact leafU_goes _ (by omega) hp hg⟩
theorem behU_goes {r : BRd} (hp : r.p ≤ s.length) :
  (∀ e, behU s r = .error e → e.1 ≠ 0) ∧ (∀ q, behU s r = .ok q → r.p ≤ q.p ∧ q.p ≤ s.length ∧ r.l.length ≤ q.l.length ∧ q.l.length ≤ r.l.length + 1 ∧ q.g = r.g ∧ q.en = r.en) := by
 unfold behU
 split
 ·exact ⟨fun e h => (by cases h), fun q h => by cases h; exact ⟨Nat.le_refl _, hp, Nat.le_refl _, Nat.le_succ _, rfl, rfl⟩⟩
 split
 ·exact ⟨fun e h => (by cases h; simp), fun q h => by cases h⟩
 ·rename_i a b k ht
  have := timesP_le hp ht
  simp only at this
  split
  ·exact ⟨fun e h => (by cases h; simp), fun q h => by cases h⟩
  ·refine ⟨fun e h => (by cases h), fun q h => ?_⟩
   cases h
   refine ⟨?_, this.2, ?_, ?_, rfl, rfl⟩
   ·show r.p ≤ k; omega
   ·show r.l.length ≤ (r.l ++ [_]).length
    rw [List.length_append]; omega
   ·show (r.l ++ [_]).length ≤ r.l.length + 1
    rw [List.length_append, List.length_singleton]; omega
theorem itemsU_goes : ∀ (f : Nat) (r : BRd) (first : Bool) (ts : List Int), r.p ≤ s.length → s.length < f + r.p → r.g ≤ 9 → (∀ g, r.g < g → g ≤ 9 → URGo s g row) →
  (∀ e, itemsU s row f r first ts = .error e → e.1 ≠ 0) ∧ (∀ ts' q, itemsU s row f r first ts = .ok (ts', q) → r.p ≤ q.p ∧ q.p ≤ s.length ∧ r.l.length ≤ q.l.length ∧ q.l.length + ts'.length ≤ r.l.length + ts.length + 3 * (q.p - r.p) ∧ r.g ≤ q.g ∧ q.g ≤ 9 ∧ endsP s q.p = true)
 | 0, r, first, ts, hp, hf, hg, hrow => by omega
 | f + 1, r, first, ts, hp, hf, hg, hrow => by
  rw [itemsU]
  by_cases he : endsP s r.p = true
  ·rw [if_pos he]
   exact ⟨fun e h => (by cases h), fun ts' q h => by cases h; exact ⟨Nat.le_refl _, hp, Nat.le_refl _, by omega, Nat.le_refl _, hg, he⟩⟩
  rw [if_neg he]
  have hlt : r.p < s.length := by
   unfold endsP at he
   rw [Bool.or_eq_true, decide_eq_true_eq, not_or] at he
   omega
  by_cases hd : s[r.p]? = some 36 ∧ endsP s (r.p + 1) = true
  ·rw [if_pos hd]
   have I := itemsU_goes f ((r.to (r.p + 1)).pu (kindNd 3)) false (ts ++ [(r.l.length : Int)]) (by show r.p + 1 ≤ _; omega) (by show _ < f + (r.p + 1); omega) hg hrow
   refine ⟨I.1, fun ts' q h => ?_⟩
   have J := I.2 ts' q h
   have hl : ((r.to (r.p + 1)).pu (kindNd 3)).l.length = r.l.length + 1 := pu_len _ _
   have hp1 : ((r.to (r.p + 1)).pu (kindNd 3)).p = r.p + 1 := rfl
   have hg1 : ((r.to (r.p + 1)).pu (kindNd 3)).g = r.g := rfl
   rw [hl, hp1, hg1, List.length_append, List.length_singleton] at J
   exact ⟨by omega, J.2.1, by omega, by omega, J.2.2.2.2.1, J.2.2.2.2.2.1, J.2.2.2.2.2.2⟩
  rw [if_neg hd]
  have A := atomU_goes (s := s) (row := row) (r := r) (first := first) hlt hg (fun h => hrow _ (by omega) (by omega))
  cases hat : atomU s row r first with
  | error e => exact ⟨fun e' h => by cases h; exact A.1 e hat, fun ts' q h => by cases h⟩
  | ok v =>
   simp only
   have u := A.2 v hat
   have B := behU_goes (s := s) (r := v) u.e
   cases hb : behU s v with
   | error e => exact ⟨fun e' h => by cases h; exact B.1 e hb, fun ts' q h => by cases h⟩
   | ok v' =>
    simp only
    have C := B.2 v' hb
    have u1 := u.p
    have u2 := u.l
    have u3 := u.l1
    have u4 := u.g
    have u5 := u.g9
    have I := itemsU_goes f v' false (ts ++ [(v'.l.length : Int) - 1]) C.2.1 (by omega) (by omega) (fun g h1 h2 => hrow g (by omega) h2)
    refine ⟨I.1, fun ts' q h => ?_⟩
    have J := I.2 ts' q h
    rw [List.length_append, List.length_singleton] at J
    exact ⟨by omega, J.2.1, by omega, by omega, by omega, J.2.2.2.2.2.1, J.2.2.2.2.2.2⟩
end
theorem catsU_g : ∀ (tl : List Int) (u : BRd), (catsU tl u).g = u.g
 | [], u => rfl
 | a :: tl, u => by rw [catsU, catsU_g]; rfl
theorem catsU_len2 : ∀ (tl : List Int) (u : BRd), (catsU tl u).l.length = u.l.length + tl.length
 | [], u => rfl
 | a :: tl, u => by
  rw [catsU, catsU_len2, pu_len, List.length_cons]; omega
theorem rowU_goes (s : List UInt8) : ∀ (f g : Nat), 10 ≤ f + g → g ≤ 9 → URGo s g (rowU s f)
 | 0, g, h, h9 => by omega
 | f + 1, g, h, h9 => by
  have hrow : ∀ g', g < g' → g' ≤ 9 → URGo s g' (rowU s f) := fun g' h1 h2 => rowU_goes s f g' (by omega) h2
  have start : ∀ r : BRd, r.p ≤ s.length → r.g = g → ∃ (r1 : BRd) (ts : List Int), rowU s (f + 1) r = (match itemsU s (rowU s f) (s.length + 1) r1 true ts with
    | .error e => .error e
    | .ok (ps, q) => .ok (catsU ps.reverse.tail q)) ∧ r.p ≤ r1.p ∧ r1.p ≤ s.length ∧ r.l.length ≤ r1.l.length ∧ r1.l.length + ts.length ≤ r.l.length + 3 * (r1.p - r.p) ∧ r1.g = g := fun r hp hg => by
   rw [rowU]
   by_cases ha : ah s r.p [94] = true
   ·refine ⟨_, _, rfl, ?_⟩
    rw [if_pos ha, if_pos ha]
    have hl : ((r.to (r.p + 1)).pu (kindNd 2)).l.length = r.l.length + 1 := pu_len _ _
    have hle : r.p + 1 ≤ s.length := by
     rcases ah_le ha with t | t
     ·exact t
     ·cases t
    rw [hl]
    exact ⟨Nat.le_succ _, hle, by omega, by show r.l.length + 1 + 1 ≤ r.l.length + 3 * (r.p + 1 - r.p); omega, hg⟩
   ·refine ⟨_, _, rfl, ?_⟩
    rw [if_neg ha, if_neg ha]
    exact ⟨Nat.le_refl _, hp, Nat.le_refl _, by simp, hg⟩
  refine ⟨fun r hp hg e he => ?_, fun r hp hg q hq => ?_⟩
  ·obtain ⟨r1, ts, h1, h2, h3, h4, h5, h6⟩ := start r hp hg
   rw [h1] at he
   have I := itemsU_goes (s := s) (row := rowU s f) (s.length + 1) r1 true ts h3 (by omega) (by omega) (fun g' k1 k2 => hrow g' (by omega) k2)
   cases hi : itemsU s (rowU s f) (s.length + 1) r1 true ts with
   | error e' => rw [hi] at he; cases he; exact I.1 _ hi
   | ok a => rw [hi] at he; cases he
  ·obtain ⟨r1, ts, h1, h2, h3, h4, h5, h6⟩ := start r hp hg
   rw [h1] at hq
   have I := itemsU_goes (s := s) (row := rowU s f) (s.length + 1) r1 true ts h3 (by omega) (by omega) (fun g' k1 k2 => hrow g' (by omega) k2)
   cases hi : itemsU s (rowU s f) (s.length + 1) r1 true ts with
   | error e' => rw [hi] at hq; cases hq
   | ok a =>
    obtain ⟨ps, v⟩ := a
    rw [hi] at hq
    have J := I.2 ps v hi
    cases hq
    rw [catsU_p, catsU_len2, catsU_g]
    have ht : ps.reverse.tail.length ≤ ps.length := by rw [List.length_tail, List.length_reverse]; omega
    exact ⟨by omega, J.2.1, by omega, by omega, by omega, J.2.2.2.2.2.1, J.2.2.2.2.2.2⟩
end Go.Proofs.YtkcbknfhckomcaaGreatDoor
