/- The reference of piece: Take, Text, Give's loop, Blanks, in. -/
import Derived.Test.YtagjoebggghknaaDoorPcE
namespace Go.Proofs.YtagjoebggghknaaDoor
open Go.RowKit
set_option linter.unusedVariables false
set_option linter.unusedSimpArgs false

def hasB (l : List UInt8) (c : UInt8) : Bool := l.contains c
theorem has_cons (x : UInt8) (l : List UInt8) (c : UInt8) : hasB (x :: l) c = (c == x || hasB l c) := by unfold hasB; rw [List.contains_cons]

set_option maxRecDepth 100000 in
set_option maxHeartbeats 8000000 in
theorem rtake_c (S : ByteArray) (a : Int) (d : UInt8) (hs : S.size ≤ 100000) (w : World) :
    Calls Tryd.prog 11 #[.string S, .int .i64 a, .int .u8 d.toNat] w fun e w' => e = .returned (tkAt S a d) ∧ w' = w := by
  obtain ⟨l, hl⟩ : ∃ l, l = S.data.toList := ⟨_, rfl⟩
  have hll : l.length = S.size := by rw [hl]; simp
  obtain ⟨A, hA⟩ : ∃ A, A = plc S.size a := ⟨_, rfl⟩
  have hAl : A ≤ S.size := by rw [hA]; exact plc_le _ _
  have HP := Lib.hid (rfrom_c S a)
  rw [← hA] at HP
  have hgoal : tkAt S a d = tkV A (tkD d (l.drop A)) := by unfold tkAt; rw [← hA, hl]
  rw [hgoal]
  have HL := Lib.hid hl
  have HLL := Lib.hid hll
  clear hl hll hgoal hA
  have z1 := u8eq (c := d) (n := 92) (by omega)
  have z2 := u8eq (c := d) (n := 10) (by omega)
  by_cases hd1 : d = 92
  · have q1 : ((d.toNat : Int) == 92) = true := z1.trans (decide_eq_true hd1)
    have hv : tkV A (tkD d (l.drop A)) = tkV A none := by unfold tkD; rw [if_pos (.inl hd1)]
    have HV := Lib.hid hv
    clear hv z1 z2 hd1
    go_enter Tryd.func11, Tryd.ntmps11
    go_wp2_with fail
    refine (HP.out _).mono ?_
    rintro e w1 ⟨rfl, rfl⟩
    go_wp2
    go_ret3
    exact ⟨by rw [HV.out]; rfl, rfl⟩
  have q1 : ((d.toNat : Int) == 92) = false := z1.trans (decide_eq_false hd1)
  by_cases hd2 : d = 10
  · have q2 : ((d.toNat : Int) == 10) = true := z2.trans (decide_eq_true hd2)
    have hv : tkV A (tkD d (l.drop A)) = tkV A none := by unfold tkD; rw [if_pos (.inr hd2)]
    have HV := Lib.hid hv
    clear hv z1 z2 hd2 hd1
    go_enter Tryd.func11, Tryd.ntmps11
    go_wp2_with fail
    refine (HP.out _).mono ?_
    rintro e w1 ⟨rfl, rfl⟩
    go_wp2
    go_ret3
    exact ⟨by rw [HV.out]; rfl, rfl⟩
  have q2 : ((d.toNat : Int) == 10) = false := z2.trans (decide_eq_false hd2)
  have hv : tkD d (l.drop A) = tkP d (l.drop A) := by unfold tkD; rw [if_neg (by rintro (h | h); exact hd1 h; exact hd2 h)]
  rw [hv]
  have HDD := Lib.hid (And.intro hd1 hd2)
  clear hv z1 z2 hd1 hd2
  go_enter Tryd.func11, Tryd.ntmps11
  go_wp2_with fail
  refine (HP.out _).mono ?_
  rintro e w1 ⟨rfl, rfl⟩
  clear HP
  go_wp2
  go_loop [9, 10] (fun o i => ∃ (k : Nat) (out : List UInt8) (t : ByteArray), k ≤ S.size ∧ A ≤ k ∧ i = .int .i64 k ∧ o = .string t ∧ t = ⟨out.toArray⟩ ∧ out.length ≤ k ∧ tkP d (l.drop A) = (tkP d (l.drop k)).map fun x => (out ++ x.1, (k - A) + x.2)) (fun _ i => S.size - (RowKit.intOf i).toNat)
  case atStart => exact ⟨A, [], _, hAl, Nat.le_refl _, rfl, rfl, rfl, by simp, by cases tkP d (l.drop A) <;> simp⟩
  case round =>
    obtain ⟨k, out, t, hk, hAk, rfl, rfl, ht, hok, hpr⟩ := hrel
    have hts : t.size = out.length := by rw [ht, ba_size]
    have HT := Lib.hid ht
    clear ht
    by_cases hlt : k < S.size
    · obtain ⟨c, hc⟩ : ∃ c, l[k]? = some c := ⟨l[k]'(by have := HLL.out; omega), List.getElem?_eq_getElem _⟩
      have hsc := ba_get? S l HL.out.symm (k) c (by omega) hc
      have hdrc := drop_one l (k) c hc
      rw [hdrc] at hpr
      by_cases hcd : c = d
      · have hv : tkV A (tkP d (l.drop A)) = .tuple #[.string t, .int .i64 ((k : Int) + 1), .int .i64 0] := by
          rw [hpr, hcd, tk_end, HT.out]
          simp only [Option.map_some, tkV, List.append_nil]
          rw [show A + (k - A + 1) = k + 1 by omega]
          rfl
        have q3 : ((S[k].toNat : Int) == (d.toNat : Int)) = true := by rw [hsc]; exact (u8d _ _).trans (decide_eq_true hcd)
        have HV := Lib.hid hv
        clear hv hsc hdrc hpr hc hcd
        go_wp2
        go_ret3
        exact ⟨by rw [HV.out]; rfl, rfl⟩
      have q3 : ((S[k].toNat : Int) == (d.toNat : Int)) = false := by rw [hsc]; exact (u8d _ _).trans (decide_eq_false hcd)
      by_cases h10 : c = 10
      · have hv : tkV A (tkP d (l.drop A)) = tkV A none := by rw [hpr, h10, tk_nl _ _ HDD.out.2]; rfl
        have q4 : ((S[k].toNat : Int) == 10) = true := by rw [hsc]; exact (u8eq (n := 10) (by omega)).trans (decide_eq_true h10)
        have HV := Lib.hid hv
        clear hv hsc hdrc hpr hc h10 hcd
        go_wp2
        go_ret3
        exact ⟨by rw [HV.out]; rfl, rfl⟩
      have q4 : ((S[k].toNat : Int) == 10) = false := by rw [hsc]; exact (u8eq (n := 10) (by omega)).trans (decide_eq_false h10)
      by_cases h92 : c = 92
      · subst h92
        have q5 : ((S[k].toNat : Int) == 92) = true := by rw [hsc]; exact (u8eq (n := 92) (by omega)).trans (decide_eq_true rfl)
        by_cases hlast : k + 1 = S.size
        · have q6 : ((k : Int) + 1 == S.size) = true := by rw [beq_iff_eq]; omega
          have hv : tkV A (tkP d (l.drop A)) = tkV A none := by rw [hpr, List.drop_eq_nil_of_le (by have := HLL.out; omega), tk_bs1 _ HDD.out.1]; rfl
          have HV := Lib.hid hv
          clear hv hsc hdrc hpr hc hcd hlast
          go_wp2
          go_ret3
          exact ⟨by rw [HV.out]; rfl, rfl⟩
        have q6 : ((k : Int) + 1 == S.size) = false := by rw [beq_eq_false_iff_ne]; omega
        have hlt2 : k + 1 < S.size := by omega
        have hki : (k : Int) + 1 < S.size := by omega
        obtain ⟨x, hx⟩ : ∃ x, l[k + 1]? = some x := ⟨l[k + 1]'(by have := HLL.out; omega), List.getElem?_eq_getElem _⟩
        have hsx := ba_get? S l HL.out.symm (k + 1) x (by omega) hx
        have hdrx := drop_one l (k + 1) x hx
        rw [hdrx, tk_bs _ _ _ HDD.out.1] at hpr
        by_cases hxd : x = d
        · have q7 : ((S[k + 1].toNat : Int) == (d.toNat : Int)) = true := by rw [hsx]; exact (u8d _ _).trans (decide_eq_true hxd)
          obtain ⟨D, hD⟩ : ∃ D : ByteArray, D = ⟨#[x]⟩ := ⟨_, rfl⟩
          have hDs : D.size = 1 := by rw [hD]; rfl
          have hD1 : (9223372036854775807 < t.size + D.size) = False := by simp; omega
          have hD2 : (9223372036854775807 < (t.size : Int) + (D.size : Int)) = False := by simp; omega
          have hDl := slice_mid S (k + 1) (k + 2) (by omega) (by omega) D (by rw [hD, ← HL.out]; rw [hdrx]; simp)
          have hDl2 : ∀ W, (Instr.slice 9 (.string S) (some (.int .i64 ((k : Int) + 1))) (some (.int .i64 ((k : Int) + 2))) none).run Tryd.prog W = .ok (.string D) W := fun W => hDl W
          have HD := Lib.hid hD
          have hpr2 : tkP d (l.drop A) = (tkP d (l.drop (k + 1 + 1))).map fun y => ((out ++ [x]) ++ y.1, (k + 1 + 1 - A) + y.2) := by
            rw [hpr, Option.map_map]
            congr 1
            funext y
            simp only [Function.comp, if_pos hxd, List.append_assoc, List.singleton_append, Prod.mk.injEq, true_and]
            omega
          have HPR := Lib.hid hpr2
          clear hpr hpr2 hsc hdrc hc hsx hdrx hx hcd hlast hxd hD hDs hts hDl
          go_wp2
          go_round
          case rel =>
            refine ⟨k + 2, out ++ [x], _, by omega, by omega, by simp; omega, rfl, ?_, by simp; omega, ?_⟩
            · rw [HT.out, HD.out]; exact ba_app out [x]
            · exact HPR.out
          case measure => (simp [RowKit.intOf]) <;> omega
        · have q7 : ((S[k + 1].toNat : Int) == (d.toNat : Int)) = false := by rw [hsx]; exact (u8d _ _).trans (decide_eq_false hxd)
          obtain ⟨D, hD⟩ : ∃ D : ByteArray, D = ⟨#[92, x]⟩ := ⟨_, rfl⟩
          have hDs : D.size = 2 := by rw [hD]; rfl
          have hD1 : (9223372036854775807 < t.size + D.size) = False := by simp; omega
          have hD2 : (9223372036854775807 < (t.size : Int) + (D.size : Int)) = False := by simp; omega
          have hDl := slice_mid S (k) (k + 2) (by omega) (by omega) D (by rw [hD, ← HL.out]; rw [hdrc, hdrx]; simp)
          have hDl2 : ∀ W, (Instr.slice 9 (.string S) (some (.int .i64 ((k : Int)))) (some (.int .i64 ((k : Int) + 2))) none).run Tryd.prog W = .ok (.string D) W := fun W => hDl W
          have HD := Lib.hid hD
          have hpr2 : tkP d (l.drop A) = (tkP d (l.drop (k + 1 + 1))).map fun y => ((out ++ [92, x]) ++ y.1, (k + 1 + 1 - A) + y.2) := by
            rw [hpr, Option.map_map]
            congr 1
            funext y
            simp only [Function.comp, if_neg hxd, List.append_assoc, List.cons_append, List.nil_append, Prod.mk.injEq, true_and]
            omega
          have HPR := Lib.hid hpr2
          clear hpr hpr2 hsc hdrc hc hsx hdrx hx hcd hlast hxd hD hDs hts hDl
          go_wp2
          go_round
          case rel =>
            refine ⟨k + 2, out ++ [92, x], _, by omega, by omega, by simp; omega, rfl, ?_, by simp; omega, ?_⟩
            · rw [HT.out, HD.out]; exact ba_app out [92, x]
            · exact HPR.out
          case measure => (simp [RowKit.intOf]) <;> omega
      · have q5 : ((S[k].toNat : Int) == 92) = false := by rw [hsc]; exact (u8eq (n := 92) (by omega)).trans (decide_eq_false h92)
        obtain ⟨D, hD⟩ : ∃ D : ByteArray, D = ⟨#[c]⟩ := ⟨_, rfl⟩
        have hDs : D.size = 1 := by rw [hD]; rfl
        have hD1 : (9223372036854775807 < t.size + D.size) = False := by simp; omega
        have hD2 : (9223372036854775807 < (t.size : Int) + (D.size : Int)) = False := by simp; omega
        have hDl := slice_mid S (k) (k + 1) (by omega) (by omega) D (by rw [hD, ← HL.out]; rw [hdrc]; simp)
        have hDl2 : ∀ W, (Instr.slice 9 (.string S) (some (.int .i64 ((k : Int)))) (some (.int .i64 ((k : Int) + 1))) none).run Tryd.prog W = .ok (.string D) W := fun W => hDl W
        have HD := Lib.hid hD
        have hpr2 : tkP d (l.drop A) = (tkP d (l.drop (k + 1))).map fun y => ((out ++ [c]) ++ y.1, (k + 1 - A) + y.2) := by
          rw [hpr, tk_at d c _ hcd h10 h92, Option.map_map]
          congr 1
          funext y
          simp only [Function.comp, List.append_assoc, List.cons_append, List.nil_append, Prod.mk.injEq, true_and]
          omega
        have HPR := Lib.hid hpr2
        clear hpr hpr2 hsc hdrc hc hcd h10 h92 hD hDs hts hDl
        go_wp2
        go_round
        case rel =>
          refine ⟨k + 1, out ++ [c], _, by omega, by omega, by simp, rfl, ?_, by simp; omega, ?_⟩
          · rw [HT.out, HD.out]; exact ba_app out [c]
          · exact HPR.out
        case measure => (simp [RowKit.intOf]) <;> omega
    · obtain rfl : k = S.size := by omega
      have hlt1 : ((S.size : Int) < S.size) = False := by simp
      rw [List.drop_eq_nil_of_le (i := S.size) (by have := HLL.out; omega), tk_nil] at hpr
      have HV := Lib.hid hpr
      clear hpr
      go_wp2
      go_ret3
      exact ⟨by rw [HV.out]; rfl, rfl⟩

set_option maxRecDepth 100000 in
set_option maxHeartbeats 8000000 in
theorem rtext_c (S : ByteArray) (a : Int) (hs : S.size ≤ 100000) (w : World) :
    Calls Tryd.prog 21 #[.string S, .int .i64 a] w fun e w' => e = .returned (txAt S a) ∧ w' = w := by
  obtain ⟨l, hl⟩ : ∃ l, l = S.data.toList := ⟨_, rfl⟩
  have hll : l.length = S.size := by rw [hl]; simp
  obtain ⟨A, hA⟩ : ∃ A, A = plc S.size a := ⟨_, rfl⟩
  have hAl : A ≤ S.size := by rw [hA]; exact plc_le _ _
  have HP := Lib.hid (rfrom_c S a)
  rw [← hA] at HP
  have hgoal : txAt S a = txV A (txP (l.drop A)) := by unfold txAt; rw [← hA, hl]
  rw [hgoal]
  have HL := Lib.hid hl
  have HLL := Lib.hid hll
  clear hl hll hgoal hA
  go_enter Tryd.func21, Tryd.ntmps21
  go_wp2_with fail
  refine (HP.out _).mono ?_
  rintro e w1 ⟨rfl, rfl⟩
  clear HP
  go_wp2
  go_loop [7, 8] (fun o i => ∃ (k : Nat) (out : List UInt8) (t : ByteArray), k ≤ S.size ∧ A ≤ k ∧ i = .int .i64 k ∧ o = .string t ∧ t = ⟨out.toArray⟩ ∧ out.length ≤ k ∧ txP (l.drop A) = (txP (l.drop k)).map fun x => (out ++ x.1, (k - A) + x.2)) (fun _ i => S.size - (RowKit.intOf i).toNat)
  case atStart => exact ⟨A, [], _, hAl, Nat.le_refl _, rfl, rfl, rfl, by simp, by cases txP (l.drop A) <;> simp⟩
  case round =>
    obtain ⟨k, out, t, hk, hAk, rfl, rfl, ht, hok, hpr⟩ := hrel
    have hts : t.size = out.length := by rw [ht, ba_size]
    have hb1 : (9223372036854775807 < t.size + 1) = False := by simp; omega
    have hb2 : (9223372036854775807 < (t.size : Int) + 1) = False := by simp; omega
    have HT := Lib.hid ht
    clear ht
    by_cases hlt : k < S.size
    · obtain ⟨c, hc⟩ : ∃ c, l[k]? = some c := ⟨l[k]'(by have := HLL.out; omega), List.getElem?_eq_getElem _⟩
      have hsc := ba_get? S l HL.out.symm (k) c (by omega) hc
      have hdrc := drop_one l (k) c hc
      rw [hdrc] at hpr
      by_cases h10 : c = 10
      · have hv : txV A (txP (l.drop A)) = .tuple #[.string (t ++ ⟨#[10]⟩), .int .i64 ((k : Int) + 1), .int .i64 0] := by
          rw [hpr, h10, tx_nl, HT.out]
          simp only [Option.map_some, txV, List.append_nil]
          rw [show A + (k - A + 1) = k + 1 by omega]
          exact congrArg (fun X => Value.tuple #[.string X, .int .i64 ((k : Int) + 1), .int .i64 0]) (ba_app out [10]).symm
        have q4 : ((S[k].toNat : Int) == 10) = true := by rw [hsc]; exact (u8eq (n := 10) (by omega)).trans (decide_eq_true h10)
        have HV := Lib.hid hv
        clear hv hsc hdrc hpr hc h10
        go_wp2
        go_ret3
        exact ⟨by rw [HV.out]; rfl, rfl⟩
      have q4 : ((S[k].toNat : Int) == 10) = false := by rw [hsc]; exact (u8eq (n := 10) (by omega)).trans (decide_eq_false h10)
      by_cases h92 : c = 92
      · subst h92
        have q5 : ((S[k].toNat : Int) == 92) = true := by rw [hsc]; exact (u8eq (n := 92) (by omega)).trans (decide_eq_true rfl)
        by_cases hlast : k + 1 = S.size
        · have q6 : ((k : Int) + 1 == S.size) = true := by rw [beq_iff_eq]; omega
          have hv : txV A (txP (l.drop A)) = txV A none := by rw [hpr, List.drop_eq_nil_of_le (by have := HLL.out; omega), txP, if_neg (by decide), if_pos rfl]; rfl
          have HV := Lib.hid hv
          clear hv hsc hdrc hpr hc hlast
          go_wp2
          go_ret3
          exact ⟨by rw [HV.out]; rfl, rfl⟩
        have q6 : ((k : Int) + 1 == S.size) = false := by rw [beq_eq_false_iff_ne]; omega
        have hlt2 : k + 1 < S.size := by omega
        have hki : (k : Int) + 1 < S.size := by omega
        obtain ⟨x, hx⟩ : ∃ x, l[k + 1]? = some x := ⟨l[k + 1]'(by have := HLL.out; omega), List.getElem?_eq_getElem _⟩
        have hsx := ba_get? S l HL.out.symm (k + 1) x (by omega) hx
        have hdrx := drop_one l (k + 1) x hx
        rw [hdrx, tx_bs] at hpr
        obtain ⟨D, hD⟩ : ∃ D : ByteArray, D = ⟨#[x]⟩ := ⟨_, rfl⟩
        have hDs : D.size = 1 := by rw [hD]; rfl
        have hD1 : (9223372036854775807 < t.size + D.size) = False := by simp; omega
        have hD2 : (9223372036854775807 < (t.size : Int) + (D.size : Int)) = False := by simp; omega
        have hDl := slice_mid S (k + 1) (k + 2) (by omega) (by omega) D (by rw [hD, ← HL.out]; rw [hdrx]; simp)
        have hDl2 : ∀ W, (Instr.slice 9 (.string S) (some (.int .i64 ((k : Int) + 1))) (some (.int .i64 ((k : Int) + 2))) none).run Tryd.prog W = .ok (.string D) W := fun W => hDl W
        have HD := Lib.hid hD
        have hpr2 : txP (l.drop A) = (txP (l.drop (k + 1 + 1))).map fun y => ((out ++ [x]) ++ y.1, (k + 1 + 1 - A) + y.2) := by
          rw [hpr, Option.map_map]
          congr 1
          funext y
          simp only [Function.comp, List.append_assoc, List.singleton_append, Prod.mk.injEq, true_and]
          omega
        have HPR := Lib.hid hpr2
        clear hpr hpr2 hsc hdrc hc hsx hdrx hx hlast hD hDs hts hDl
        go_wp2
        go_round
        case rel =>
          refine ⟨k + 2, out ++ [x], _, by omega, by omega, by simp; omega, rfl, ?_, by simp; omega, ?_⟩
          · rw [HT.out, HD.out]; exact ba_app out [x]
          · exact HPR.out
        case measure => (simp [RowKit.intOf]) <;> omega
      · have q5 : ((S[k].toNat : Int) == 92) = false := by rw [hsc]; exact (u8eq (n := 92) (by omega)).trans (decide_eq_false h92)
        obtain ⟨D, hD⟩ : ∃ D : ByteArray, D = ⟨#[c]⟩ := ⟨_, rfl⟩
        have hDs : D.size = 1 := by rw [hD]; rfl
        have hD1 : (9223372036854775807 < t.size + D.size) = False := by simp; omega
        have hD2 : (9223372036854775807 < (t.size : Int) + (D.size : Int)) = False := by simp; omega
        have hDl := slice_mid S (k) (k + 1) (by omega) (by omega) D (by rw [hD, ← HL.out]; rw [hdrc]; simp)
        have hDl2 : ∀ W, (Instr.slice 9 (.string S) (some (.int .i64 ((k : Int)))) (some (.int .i64 ((k : Int) + 1))) none).run Tryd.prog W = .ok (.string D) W := fun W => hDl W
        have HD := Lib.hid hD
        have hpr2 : txP (l.drop A) = (txP (l.drop (k + 1))).map fun y => ((out ++ [c]) ++ y.1, (k + 1 - A) + y.2) := by
          rw [hpr, tx_at c _ h10 h92, Option.map_map]
          congr 1
          funext y
          simp only [Function.comp, List.append_assoc, List.cons_append, List.nil_append, Prod.mk.injEq, true_and]
          omega
        have HPR := Lib.hid hpr2
        clear hpr hpr2 hsc hdrc hc h10 h92 hD hDs hts hDl
        go_wp2
        go_round
        case rel =>
          refine ⟨k + 1, out ++ [c], _, by omega, by omega, by simp, rfl, ?_, by simp; omega, ?_⟩
          · rw [HT.out, HD.out]; exact ba_app out [c]
          · exact HPR.out
        case measure => (simp [RowKit.intOf]) <;> omega
    · obtain rfl : k = S.size := by omega
      have hlt1 : ((S.size : Int) < S.size) = False := by simp
      have hv : txV A (txP (l.drop A)) = .tuple #[.string (t ++ ⟨#[10]⟩), .int .i64 (S.size : Int), .int .i64 0] := by
        rw [hpr, List.drop_eq_nil_of_le (i := S.size) (by have := HLL.out; omega), txP, HT.out]
        simp only [Option.map_some, txV, List.append_nil]
        rw [show A + (S.size - A + 0) = S.size by omega]
        exact congrArg (fun X => Value.tuple #[.string X, .int .i64 (S.size : Int), .int .i64 0]) (ba_app out [10]).symm
      have HV := Lib.hid hv
      clear hpr hv
      go_wp2
      go_ret3
      exact ⟨by rw [HV.out]; rfl, rfl⟩

set_option maxRecDepth 100000 in
set_option maxHeartbeats 8000000 in
theorem rin_c (S : ByteArray) (c : UInt8) (hs : S.size ≤ 100000) (w : World) :
    Calls Tryd.prog 38 #[.string S, .int .u8 c.toNat] w fun e w' => e = .returned (.bool (hasB S.data.toList c)) ∧ w' = w := by
  obtain ⟨l, hl⟩ : ∃ l, l = S.data.toList := ⟨_, rfl⟩
  have hll : l.length = S.size := by rw [hl]; simp
  rw [← hl]
  have HL := Lib.hid hl
  have HLL := Lib.hid hll
  clear hl hll
  go_enter Tryd.func38, Tryd.ntmps38
  go_wp2
  go_loop [5] (fun i => ∃ (k : Nat), k ≤ S.size ∧ i = .int .i64 k ∧ hasB l c = hasB (l.drop k) c) (fun i => S.size - (RowKit.intOf i).toNat)
  case atStart => exact ⟨0, by omega, rfl, rfl⟩
  case round =>
    obtain ⟨k, hk, rfl, hr⟩ := hrel
    by_cases hlt : k < S.size
    · obtain ⟨x, hx⟩ : ∃ x, l[k]? = some x := ⟨l[k]'(by have := HLL.out; omega), List.getElem?_eq_getElem _⟩
      have hsx := ba_get? S l HL.out.symm (k) x (by omega) hx
      have hdrx := drop_one l (k) x hx
      rw [hdrx, has_cons] at hr
      by_cases hxc : x = c
      · have q1 : ((S[k].toNat : Int) == (c.toNat : Int)) = true := by rw [hsx]; exact (u8d _ _).trans (decide_eq_true hxc)
        have hv : hasB l c = true := by rw [hr, hxc]; simp
        have HV := Lib.hid hv
        clear hv hr hxc hsx hdrx hx
        go_wp2
        go_ret
        exact ⟨by rw [HV.out]; rfl, rfl⟩
      · have q1 : ((S[k].toNat : Int) == (c.toNat : Int)) = false := by rw [hsx]; exact (u8d _ _).trans (decide_eq_false hxc)
        have hv : hasB l c = hasB (l.drop (k + 1)) c := by rw [hr, show (c == x) = false from beq_eq_false_iff_ne.2 (fun h => hxc h.symm), Bool.false_or]
        have HV := Lib.hid hv
        clear hv hr hxc hsx hdrx hx
        go_wp2
        go_round
        case rel => exact ⟨k + 1, by omega, by simp, HV.out⟩
        case measure => (simp [RowKit.intOf]) <;> omega
    · obtain rfl : k = S.size := by omega
      have hlt1 : ((S.size : Int) < S.size) = False := by simp
      rw [List.drop_eq_nil_of_le (i := S.size) (by have := HLL.out; omega)] at hr
      have HV := Lib.hid hr
      clear hr
      go_wp2
      go_ret
      exact ⟨by rw [HV.out]; rfl, rfl⟩

set_option maxRecDepth 100000 in
set_option maxHeartbeats 8000000 in
theorem rblanks_c (S : ByteArray) (a : Int) (hs : S.size ≤ 100000) (w : World) :
    Calls Tryd.prog 19 #[.string S, .int .i64 a] w fun e w' => e = .returned (.int .i64 ((plc S.size a + blP (S.data.toList.drop (plc S.size a)) : Nat) : Int)) ∧ w' = w := by
  obtain ⟨l, hl⟩ : ∃ l, l = S.data.toList := ⟨_, rfl⟩
  have hll : l.length = S.size := by rw [hl]; simp
  obtain ⟨A, hA⟩ : ∃ A, A = plc S.size a := ⟨_, rfl⟩
  have hAl : A ≤ S.size := by rw [hA]; exact plc_le _ _
  have HP := Lib.hid (rfrom_c S a)
  rw [← hA] at HP ⊢
  rw [← hl]
  obtain ⟨V, hV⟩ : ∃ V, V = A + blP (l.drop A) := ⟨_, rfl⟩
  rw [← hV]
  have HV0 := Lib.hid hV
  have HL := Lib.hid hl
  have HLL := Lib.hid hll
  have HB := Lib.hid rblank_c
  clear hl hll hA hV
  go_enter Tryd.func19, Tryd.ntmps19
  go_wp2_with fail
  refine (HP.out _).mono ?_
  rintro e w1 ⟨rfl, rfl⟩
  go_wp2
  go_loop [1] (fun i => ∃ (k : Nat), k ≤ S.size ∧ i = .int .i64 k ∧ V = k + blP (l.drop k)) (fun i => S.size - (RowKit.intOf i).toNat)
  case atStart => exact ⟨A, hAl, rfl, HV0.out⟩
  case round =>
    obtain ⟨k, hk, rfl, hr⟩ := hrel
    by_cases hlt : k < S.size
    · obtain ⟨x, hx⟩ : ∃ x, l[k]? = some x := ⟨l[k]'(by have := HLL.out; omega), List.getElem?_eq_getElem _⟩
      have hsx := ba_get? S l HL.out.symm (k) x (by omega) hx
      have hdrx := drop_one l (k) x hx
      rw [hdrx] at hr
      have HX := HB.out x
      cases hb : isBl x
      · rw [hb] at HX
        have HXX := Lib.hid HX
        have hv : V = k := by rw [hr]; unfold blP; rw [List.takeWhile_cons, hb]; rfl
        have HV := Lib.hid hv
        clear hv hr hdrx hx HX hb
        go_wp2_with fail
        refine (HXX.out _).mono ?_
        rintro e w2 ⟨rfl, rfl⟩
        go_wp2
        go_ret
        exact ⟨by rw [HV.out]; rfl, rfl⟩
      · rw [hb] at HX
        have HXX := Lib.hid HX
        have hv : V = k + 1 + blP (l.drop (k + 1)) := by rw [hr]; unfold blP; rw [List.takeWhile_cons, hb]; simp only [if_true, List.length_cons]; omega
        have HV := Lib.hid hv
        clear hv hr hdrx hx HX hb
        go_wp2_with fail
        refine (HXX.out _).mono ?_
        rintro e w2 ⟨rfl, rfl⟩
        go_wp2
        go_round
        case rel => exact ⟨k + 1, by omega, by simp, HV.out⟩
        case measure => (simp [RowKit.intOf]) <;> omega
    · obtain rfl : k = S.size := by omega
      have hlt1 : ((S.size : Int) < S.size) = False := by simp
      rw [List.drop_eq_nil_of_le (i := S.size) (by have := HLL.out; omega)] at hr
      have HV := Lib.hid hr
      clear hr
      go_wp2
      go_ret
      exact ⟨by rw [HV.out]; rfl, rfl⟩

end Go.Proofs.YtagjoebggghknaaDoor
