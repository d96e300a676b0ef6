/- The reference of piece: Number, Word, Give, Untext. -/
import Derived.Test.YtagjoebggghknaaDoorPcF
import Derived.Test.YtagjoebggghknaaDoorPcG0
namespace Go.Proofs.YtagjoebggghknaaDoor
open Go.RowKit
set_option linter.unusedVariables false
set_option linter.unusedSimpArgs false

/-- What Number answers, begun at A. -/
def nbV (A : Nat) (l : List UInt8) : Value := if dgP l = [] then .tuple #[.int .i64 0, .int .i64 (A : Int), .int .i64 3] else if 999999999 < nmP l then .tuple #[.int .i64 0, .int .i64 (A : Int), .int .i64 1] else .tuple #[.int .i64 (nmP l : Int), .int .i64 ((A + (dgP l).length : Nat) : Int), .int .i64 0]
def nbAt (S : ByteArray) (a : Int) : Value := nbV (plc S.size a) (S.data.toList.drop (plc S.size a))
def wdV (A : Nat) (el l : List UInt8) : Value := .tuple #[.string ⟨(wdP el l).toArray⟩, .int .i64 ((A + wnP el l : Nat) : Int)]
def wdAt (S : ByteArray) (a : Int) (E : ByteArray) : Value := wdV (plc S.size a) E.data.toList (S.data.toList.drop (plc S.size a))
def gvV : Option (List UInt8) → Value
  | some x => .tuple #[.string ⟨x.toArray⟩, .int .i64 0]
  | none => .tuple #[.string ⟨#[]⟩, .int .i64 1]
/-- What is untold; none: no byte 10 stands last. -/
def utD (l : List UInt8) : Option (List UInt8) := if l.getLast? = some 10 then some (utP true l.dropLast) else none
theorem u8sub (c : UInt8) (h : isDgt c = true) : ((c.toNat : Int) - 48) % 256 = ((c.toNat - 48 : Nat) : Int) := by
  unfold isDgt at h
  simp at h
  omega

set_option maxRecDepth 100000 in
set_option maxHeartbeats 8000000 in
theorem rnumber_c (S : ByteArray) (a : Int) (hs : S.size ≤ 100000) (w : World) :
    Calls Tryd.prog 15 #[.string S, .int .i64 a] w fun e w' => e = .returned (nbAt S a) ∧ w' = w := by
  obtain ⟨l, hl⟩ : ∃ l, l = S.data.toList := ⟨_, rfl⟩
  have hll : l.length = S.size := by rw [hl]; simp
  obtain ⟨A, hA⟩ : ∃ A, A = plc S.size a := ⟨_, rfl⟩
  have hAl : A ≤ S.size := by rw [hA]; exact plc_le _ _
  have HP := Lib.hid (rfrom_c S a)
  rw [← hA] at HP
  have hgoal : nbAt S a = nbV A (l.drop A) := by unfold nbAt; rw [← hA, hl]
  rw [hgoal]
  obtain ⟨V, hV⟩ : ∃ V, V = nbV A (l.drop A) := ⟨_, rfl⟩
  rw [← hV]
  have HV := Lib.hid hV
  have HL := Lib.hid hl
  have HLL := Lib.hid hll
  clear hl hll hgoal hA hV
  go_enter Tryd.func15, Tryd.ntmps15
  go_wp2_with fail
  refine (HP.out _).mono ?_
  rintro e w1 ⟨rfl, rfl⟩
  clear HP
  go_wp2
  go_loop [7, 8] (fun n i => ∃ (k : Nat) (pre : List UInt8) (m : Nat), k ≤ S.size ∧ A + pre.length = k ∧ i = .int .i64 k ∧ n = .int .i64 m ∧ m = pre.foldl dgF 0 ∧ m ≤ 1000000000 ∧ dgP (l.drop A) = pre ++ dgP (l.drop k)) (fun _ i => S.size - (RowKit.intOf i).toNat)
  case atStart => exact ⟨A, [], 0, hAl, rfl, rfl, rfl, rfl, by omega, rfl⟩
  case round =>
    obtain ⟨k, pre, m, hk, hAk, rfl, rfl, hm, hm9, hpr⟩ := hrel
    have HM := Lib.hid hm
    clear hm
    have hend : ∀ (_ : dgP (l.drop k) = []), dgP (l.drop A) = pre ∧ nmP (l.drop A) = m := fun h => by
      have h1 : dgP (l.drop A) = pre := by rw [hpr, h, List.append_nil]
      exact ⟨h1, by rw [nmP_eq, h1, HM.out]⟩
    have hfin : ∀ (_ : dgP (l.drop k) = []), V = if pre = [] then .tuple #[.int .i64 0, .int .i64 (A : Int), .int .i64 3] else if 999999999 < m then .tuple #[.int .i64 0, .int .i64 (A : Int), .int .i64 1] else .tuple #[.int .i64 (m : Int), .int .i64 (k : Int), .int .i64 0] := fun h => by
      obtain ⟨h1, h2⟩ := hend h
      rw [HV.out]
      unfold nbV
      rw [h1, h2, hAk]
    have HF := Lib.hid hfin
    clear hend hfin
    by_cases hgo : ∃ (h : k < S.size) (c : UInt8), l[k]? = some c ∧ isDgt c = true
    · obtain ⟨hlt, c, hc, hdg⟩ := hgo
      have hsc := ba_get? S l HL.out.symm k c hlt hc
      have hdrc := drop_one l k c hc
      have hd1 : dgP (l.drop k) = c :: dgP (l.drop (k + 1)) := by rw [hdrc]; unfold dgP; rw [List.takeWhile_cons, hdg]; rfl
      have hd2 := isDgt_of c
      rw [hdg] at hd2
      have hq1 : (48 : Int) ≤ (S[k].toNat : Int) := by rw [hsc]; simp at hd2; omega
      have hq2 : (S[k].toNat : Int) ≤ 57 := by rw [hsc]; simp at hd2; omega
      have hw1 : ((S[k].toNat : Int) - 48) % 256 = ((c.toNat - 48 : Nat) : Int) := by rw [hsc]; exact u8sub c hdg
      have hw2 : IntKind.u8.wrap ((S[k].toNat : Int) - 48) = ((c.toNat - 48 : Nat) : Int) := by rw [hsc]; simp at hd2; simp [IntKind.wrap, IntKind.signed, IntKind.bits]; omega
      have hsn : dgP (l.drop A) = (pre ++ [c]) ++ dgP (l.drop (k + 1)) := by rw [hpr, hd1]; simp
      have hmn : dgF m c = (pre ++ [c]).foldl dgF 0 := by rw [List.foldl_append, HM.out]; rfl
      have hmn2 : ((dgF m c : Nat) : Int) = min ((m : Int) * 10 + ((c.toNat - 48 : Nat) : Int)) 1000000000 := by unfold dgF; omega
      have hbig : ((c.toNat - 48 : Nat) : Int) ≤ 9 := by rw [← hsc]; omega
      obtain ⟨y, hy⟩ : ∃ y : Nat, y = c.toNat - 48 := ⟨_, rfl⟩
      rw [← hy] at hw1 hw2 hmn2 hbig
      have HH := Lib.hid (And.intro hsn (And.intro hmn hmn2))
      clear hsc hdrc hd1 hd2 hdg hc hpr hsn hmn hmn2 hy
      go_wp2
      go_round
      case rel => exact ⟨k + 1, pre ++ [c], dgF m c, by omega, by simp; omega, by simp, by rw [HH.out.2.2], HH.out.2.1, dgF_le _ _, HH.out.1⟩
      case measure => (simp [RowKit.intOf]) <;> omega
    · have hnil : dgP (l.drop k) = [] := by
        cases hq : l[k]? with
        | none => rw [List.drop_eq_nil_of_le (by rw [List.getElem?_eq_none_iff] at hq; exact hq)]; rfl
        | some c =>
          have hkl : k < S.size := by have := HLL.out; obtain ⟨h, _⟩ := List.getElem?_eq_some_iff.1 hq; omega
          have : isDgt c = false := by
            cases hx : isDgt c
            · rfl
            · exact absurd ⟨hkl, c, hq, hx⟩ hgo
          rw [drop_one l k c hq]; unfold dgP; rw [List.takeWhile_cons, this]; rfl
      have hF := HF.out hnil
      have hcase : (k = S.size) ∨ (∃ h : k < S.size, (S[k].toNat : Int) < 48) ∨ (∃ h : k < S.size, (48 : Int) ≤ (S[k].toNat : Int) ∧ (57 : Int) < (S[k].toNat : Int)) := by
        by_cases hlt : k < S.size
        · right
          obtain ⟨c, hc⟩ : ∃ c, l[k]? = some c := ⟨l[k]'(by have := HLL.out; omega), List.getElem?_eq_getElem _⟩
          have hsc := ba_get? S l HL.out.symm (k) c (by omega) hc
          have hdrc := drop_one l (k) c hc
          have : isDgt c = false := by
            cases hx : isDgt c
            · rfl
            · exact absurd ⟨hlt, c, hc, hx⟩ hgo
          rw [isDgt_of] at this
          by_cases h48 : (48 : Int) ≤ (S[k].toNat : Int)
          · right; refine ⟨hlt, h48, ?_⟩
            rw [hsc] at h48 ⊢
            simp [h48] at this
            omega
          · left; exact ⟨hlt, by omega⟩
        · left; omega
      have HFF := Lib.hid hF
      clear hF hnil hgo hpr HF
      have hpA : (k = A) ∨ (A < k) := by omega
      rcases hcase with hz | ⟨hlt, hz⟩ | ⟨hlt, hz1, hz2⟩
      · subst hz
        have hlt1 : ((S.size : Int) < S.size) = False := by simp
        rcases hpA with hpA | hpA
        · have hpn : pre = [] := List.eq_nil_of_length_eq_zero (by omega)
          have hkA : ((S.size : Int) == (A : Int)) = true := by rw [beq_iff_eq]; omega
          have hkA2 : (S.size : Int) = (A : Int) := by omega
          have HX := HFF.out
          rw [if_pos hpn] at HX
          have HXX := Lib.hid HX
          clear HX hpn HFF hkA2 hpA
          go_wp2
          go_ret3
          exact ⟨by rw [HXX.out]; rfl, rfl⟩
        · have hpn : ¬ pre = [] := fun h => by rw [h] at hAk; simp at hAk; omega
          have HX := HFF.out
          rw [if_neg hpn] at HX
          have hkA : ((S.size : Int) == (A : Int)) = false := by rw [beq_eq_false_iff_ne]; omega
          have hkA2 : ¬ (S.size : Int) = (A : Int) := by omega
          by_cases hbig : 999999999 < m
          · have hb2 : (999999999 : Int) < (m : Int) := by omega
            rw [if_pos hbig] at HX
            have HXX := Lib.hid HX
            clear HX hpn HFF
            go_wp2
            go_ret3
            exact ⟨by rw [HXX.out]; rfl, rfl⟩
          · have hb2 : ¬ (999999999 : Int) < (m : Int) := by omega
            rw [if_neg hbig] at HX
            have HXX := Lib.hid HX
            clear HX hpn HFF
            go_wp2
            go_ret3
            exact ⟨by rw [HXX.out]; rfl, rfl⟩
      · have hz4 : ¬ (48 : Int) ≤ (S[k].toNat : Int) := by omega
        rcases hpA with hpA | hpA
        · have hpn : pre = [] := List.eq_nil_of_length_eq_zero (by omega)
          have hkA : ((k : Int) == (A : Int)) = true := by rw [beq_iff_eq]; omega
          have hkA2 : (k : Int) = (A : Int) := by omega
          have HX := HFF.out
          rw [if_pos hpn] at HX
          have HXX := Lib.hid HX
          clear HX hpn HFF hkA2 hpA
          go_wp2
          go_ret3
          exact ⟨by rw [HXX.out]; rfl, rfl⟩
        · have hpn : ¬ pre = [] := fun h => by rw [h] at hAk; simp at hAk; omega
          have HX := HFF.out
          rw [if_neg hpn] at HX
          have hkA : ((k : Int) == (A : Int)) = false := by rw [beq_eq_false_iff_ne]; omega
          have hkA2 : ¬ (k : Int) = (A : Int) := by omega
          by_cases hbig : 999999999 < m
          · have hb2 : (999999999 : Int) < (m : Int) := by omega
            rw [if_pos hbig] at HX
            have HXX := Lib.hid HX
            clear HX hpn HFF
            go_wp2
            go_ret3
            exact ⟨by rw [HXX.out]; rfl, rfl⟩
          · have hb2 : ¬ (999999999 : Int) < (m : Int) := by omega
            rw [if_neg hbig] at HX
            have HXX := Lib.hid HX
            clear HX hpn HFF
            go_wp2
            go_ret3
            exact ⟨by rw [HXX.out]; rfl, rfl⟩
      · have hz5 : ¬ (S[k].toNat : Int) ≤ 57 := by omega
        rcases hpA with hpA | hpA
        · have hpn : pre = [] := List.eq_nil_of_length_eq_zero (by omega)
          have hkA : ((k : Int) == (A : Int)) = true := by rw [beq_iff_eq]; omega
          have hkA2 : (k : Int) = (A : Int) := by omega
          have HX := HFF.out
          rw [if_pos hpn] at HX
          have HXX := Lib.hid HX
          clear HX hpn HFF hkA2 hpA
          go_wp2
          go_ret3
          exact ⟨by rw [HXX.out]; rfl, rfl⟩
        · have hpn : ¬ pre = [] := fun h => by rw [h] at hAk; simp at hAk; omega
          have HX := HFF.out
          rw [if_neg hpn] at HX
          have hkA : ((k : Int) == (A : Int)) = false := by rw [beq_eq_false_iff_ne]; omega
          have hkA2 : ¬ (k : Int) = (A : Int) := by omega
          by_cases hbig : 999999999 < m
          · have hb2 : (999999999 : Int) < (m : Int) := by omega
            rw [if_pos hbig] at HX
            have HXX := Lib.hid HX
            clear HX hpn HFF
            go_wp2
            go_ret3
            exact ⟨by rw [HXX.out]; rfl, rfl⟩
          · have hb2 : ¬ (999999999 : Int) < (m : Int) := by omega
            rw [if_neg hbig] at HX
            have HXX := Lib.hid HX
            clear HX hpn HFF
            go_wp2
            go_ret3
            exact ⟨by rw [HXX.out]; rfl, rfl⟩

set_option maxRecDepth 100000 in
set_option maxHeartbeats 8000000 in
theorem rword_c (S E : ByteArray) (a : Int) (hs : S.size ≤ 100000) (hE : E.size ≤ 100000) (w : World) :
    Calls Tryd.prog 17 #[.string S, .int .i64 a, .string E] w fun e w' => e = .returned (wdAt S a E) ∧ w' = w := by
  obtain ⟨l, hl⟩ : ∃ l, l = S.data.toList := ⟨_, rfl⟩
  have hll : l.length = S.size := by rw [hl]; simp
  obtain ⟨el, hel⟩ : ∃ el, el = E.data.toList := ⟨_, rfl⟩
  obtain ⟨A, hA⟩ : ∃ A, A = plc S.size a := ⟨_, rfl⟩
  have hAl : A ≤ S.size := by rw [hA]; exact plc_le _ _
  have HP := Lib.hid (rfrom_c S a)
  rw [← hA] at HP
  have hgoal : wdAt S a E = wdV A el (l.drop A) := by unfold wdAt; rw [← hA, hl, hel]
  rw [hgoal]
  obtain ⟨V, hV⟩ : ∃ V, V = wdV A el (l.drop A) := ⟨_, rfl⟩
  rw [← hV]
  have HIN := fun c w => rin_c E c hE w
  rw [← hel] at HIN
  have HI := Lib.hid HIN
  have HB := Lib.hid rblank_c
  have HV := Lib.hid hV
  have HL := Lib.hid hl
  have HLL := Lib.hid hll
  clear hl hll hgoal hA hV hel HIN hE
  go_enter Tryd.func17, Tryd.ntmps17
  go_wp2_with fail
  refine (HP.out _).mono ?_
  rintro e w1 ⟨rfl, rfl⟩
  clear HP
  go_wp2
  go_loop [8] (fun i => ∃ (k : Nat), k ≤ S.size ∧ A ≤ k ∧ i = .int .i64 k ∧ A + wnP el (l.drop A) = k + wnP el (l.drop k)) (fun i => S.size - (RowKit.intOf i).toNat)
  case atStart => exact ⟨A, hAl, Nat.le_refl _, rfl, rfl⟩
  case round =>
    obtain ⟨k, hk, hAk, rfl, hr⟩ := hrel
    have HR := Lib.hid hr
    clear hr
    have hrest : ∀ (_ : wnP el (l.drop k) = 0), V = .tuple #[.string ⟨(trB ((l.drop A).take (k - A))).toArray⟩, .int .i64 (k : Int)] := fun h => by
      have := HR.out
      rw [HV.out]
      unfold wdV
      rw [wdP_eq, show wnP el (l.drop A) = k - A by omega, show A + (k - A) = k by omega]
    have HRS := Lib.hid hrest
    clear hrest
    by_cases hlt : k < S.size
    · obtain ⟨c, hc⟩ : ∃ c, l[k]? = some c := ⟨l[k]'(by have := HLL.out; omega), List.getElem?_eq_getElem _⟩
      have hsc := ba_get? S l HL.out.symm (k) c (by omega) hc
      have hdrc := drop_one l (k) c hc
      have h0 : wnP el (l.drop k) = if gon el c = true then wnP el (l.drop (k + 1)) + 1 else 0 := by rw [hdrc, wnP_eq, wnP_eq, List.takeWhile_cons]; split <;> rfl
      by_cases h10 : c = 10
      · have h1 : wnP el (l.drop k) = 0 := by rw [h0, h10]; rfl
        have HW := Lib.hid (HRS.out h1)
        have q1 : ((S[k].toNat : Int) != 10) = false := by rw [hsc]; exact (u8ne (n := 10) (by omega)).trans (by rw [show decide (c = UInt8.ofNat 10) = true from decide_eq_true h10]; rfl)
        have q2 : (S[k].toNat : Int) = 10 := by simpa using q1
        clear h1 h0 h10 hsc hdrc hc HRS HR q2
        go_wp2
        go_loop [9] (fun i => ∃ (j : Nat), A ≤ j ∧ j ≤ k ∧ i = .int .i64 j ∧ trB ((l.drop A).take (k - A)) = trB ((l.drop A).take (j - A))) (fun i => (RowKit.intOf i).toNat)
        case atStart => exact ⟨k, hAk, Nat.le_refl _, rfl, rfl⟩
        case round =>
          obtain ⟨j, hAj, hjk, rfl, htr⟩ := hrel
          have HTR := Lib.hid htr
          clear htr
          by_cases hjA : A < j
          · have hjA2 : (A : Int) < (j : Int) := by omega
            have hj1 : j - 1 < S.size := by omega
            obtain ⟨x, hx⟩ : ∃ x, l[j - 1]? = some x := ⟨l[j - 1]'(by have := HLL.out; omega), List.getElem?_eq_getElem _⟩
            have hsx := ba_get? S l HL.out.symm (j - 1) x hj1 hx
            have hix : ∀ W, (Instr.index 9 (.string S) (.int .i64 ((j : Int) - 1))).run Tryd.prog W = .ok (.int .u8 (x.toNat : Int)) W := fun W => by
              rw [run_index_string (P := Tryd.prog) W 9 _ .i64 ((j : Int) - 1) Tryd.underlying9, dif_pos ⟨by omega, by omega⟩]
              have e : ((j : Int) - 1).toNat = j - 1 := by omega
              congr 3
              simp only [e]
              rw [hsx]
            have hsn : (l.drop A).take (j - A) = (l.drop A).take (j - 1 - A) ++ [x] := by
              rw [show j - A = (j - 1 - A) + 1 by omega, List.take_add_one, List.getElem?_drop, show A + (j - 1 - A) = j - 1 by omega, hx]; rfl
            have HX := HB.out x
            cases hb : isBl x
            · rw [hb] at HX
              have HXX := Lib.hid HX
              have hv : trB ((l.drop A).take (k - A)) = (l.drop A).take (j - A) := by rw [HTR.out, hsn, trB_snoc, hb]; rfl
              obtain ⟨D, hD⟩ : ∃ D : ByteArray, D = ⟨((l.drop A).take (j - A)).toArray⟩ := ⟨_, rfl⟩
              have hsl := slice_mid S A j (by omega) (by omega) D (by rw [hD, ← HL.out])
              have HVV := Lib.hid (show V = .tuple #[.string D, .int .i64 (k : Int)] by rw [HW.out, hv, hD])
              clear hv hx hsx hsn HX hb hD
              go_wp2_with fail
              refine (HXX.out _).mono ?_
              rintro e w3 ⟨rfl, rfl⟩
              go_wp2
              go_ret2
              exact ⟨by rw [HVV.out]; rfl, rfl⟩
            · rw [hb] at HX
              have HXX := Lib.hid HX
              have hv : trB ((l.drop A).take (k - A)) = trB ((l.drop A).take (j - 1 - A)) := by rw [HTR.out, hsn, trB_snoc, hb]; rfl
              have HVV := Lib.hid hv
              clear hv hx hsx hsn HX hb
              go_wp2_with fail
              refine (HXX.out _).mono ?_
              rintro e w3 ⟨rfl, rfl⟩
              go_wp2
              go_round
              case rel => exact ⟨j - 1, by omega, by omega, by (try congr 1); omega, HVV.out⟩
              case measure => (simp [RowKit.intOf]) <;> omega
          · obtain rfl : j = A := by omega
            have hlt2 : ((j : Int) < j) = False := by simp
            obtain ⟨D, hD⟩ : ∃ D : ByteArray, D = ⟨#[]⟩ := ⟨_, rfl⟩
            have hsl := slice_mid S j j (by omega) (by omega) D (by rw [hD]; simp)
            have HVV := Lib.hid (show V = .tuple #[.string D, .int .i64 (k : Int)] by rw [HW.out, HTR.out, hD]; simp [trB_nil])
            clear hD
            go_wp2
            go_ret2
            exact ⟨by rw [HVV.out]; rfl, rfl⟩
      · have q1 : ((S[k].toNat : Int) != 10) = true := by rw [hsc]; exact (u8ne (n := 10) (by omega)).trans (by rw [show decide (c = UInt8.ofNat 10) = false from decide_eq_false h10]; rfl)
        have q2 : ¬ (S[k].toNat : Int) = 10 := by simpa using q1
        have HX := HI.out c
        have h2 : gon el c = !hasB el c := by unfold gon hasB; rw [show (c == 10) = false from beq_eq_false_iff_ne.2 h10]; simp
        cases hh : hasB el c
        · rw [hh] at HX h2
          rw [← hsc] at HX
          have HXX := Lib.hid HX
          have h3 : wnP el (l.drop k) = wnP el (l.drop (k + 1)) + 1 := by rw [h0, h2]; rfl
          have H3 := Lib.hid h3
          clear h0 h2 h3 hh HX hsc hdrc hc h10 HRS
          go_wp2_with fail
          refine (HXX.out _).mono ?_
          rintro e w2 ⟨rfl, rfl⟩
          go_wp2
          go_round
          case rel => exact ⟨k + 1, by omega, by omega, by simp, by have := HR.out; have := H3.out; omega⟩
          case measure => (simp [RowKit.intOf]) <;> omega
        · rw [hh] at HX h2
          rw [← hsc] at HX
          have HXX := Lib.hid HX
          have h3 : wnP el (l.drop k) = 0 := by rw [h0, h2]; rfl
          have HW := Lib.hid (HRS.out h3)
          clear h0 h2 h3 hh HX hsc hdrc hc h10 HRS HR
          go_wp2_with fail
          refine (HXX.out _).mono ?_
          rintro e w2 ⟨rfl, rfl⟩
          go_wp2
          go_loop [9] (fun i => ∃ (j : Nat), A ≤ j ∧ j ≤ k ∧ i = .int .i64 j ∧ trB ((l.drop A).take (k - A)) = trB ((l.drop A).take (j - A))) (fun i => (RowKit.intOf i).toNat)
          case atStart => exact ⟨k, hAk, Nat.le_refl _, rfl, rfl⟩
          case round =>
            obtain ⟨j, hAj, hjk, rfl, htr⟩ := hrel
            have HTR := Lib.hid htr
            clear htr
            by_cases hjA : A < j
            · have hjA2 : (A : Int) < (j : Int) := by omega
              have hj1 : j - 1 < S.size := by omega
              obtain ⟨x, hx⟩ : ∃ x, l[j - 1]? = some x := ⟨l[j - 1]'(by have := HLL.out; omega), List.getElem?_eq_getElem _⟩
              have hsx := ba_get? S l HL.out.symm (j - 1) x hj1 hx
              have hix : ∀ W, (Instr.index 9 (.string S) (.int .i64 ((j : Int) - 1))).run Tryd.prog W = .ok (.int .u8 (x.toNat : Int)) W := fun W => by
                rw [run_index_string (P := Tryd.prog) W 9 _ .i64 ((j : Int) - 1) Tryd.underlying9, dif_pos ⟨by omega, by omega⟩]
                have e : ((j : Int) - 1).toNat = j - 1 := by omega
                congr 3
                simp only [e]
                rw [hsx]
              have hsn : (l.drop A).take (j - A) = (l.drop A).take (j - 1 - A) ++ [x] := by
                rw [show j - A = (j - 1 - A) + 1 by omega, List.take_add_one, List.getElem?_drop, show A + (j - 1 - A) = j - 1 by omega, hx]; rfl
              have HX := HB.out x
              cases hb : isBl x
              · rw [hb] at HX
                have HXX := Lib.hid HX
                have hv : trB ((l.drop A).take (k - A)) = (l.drop A).take (j - A) := by rw [HTR.out, hsn, trB_snoc, hb]; rfl
                obtain ⟨D, hD⟩ : ∃ D : ByteArray, D = ⟨((l.drop A).take (j - A)).toArray⟩ := ⟨_, rfl⟩
                have hsl := slice_mid S A j (by omega) (by omega) D (by rw [hD, ← HL.out])
                have HVV := Lib.hid (show V = .tuple #[.string D, .int .i64 (k : Int)] by rw [HW.out, hv, hD])
                clear hv hx hsx hsn HX hb hD
                go_wp2_with fail
                refine (HXX.out _).mono ?_
                rintro e w3 ⟨rfl, rfl⟩
                go_wp2
                go_ret2
                exact ⟨by rw [HVV.out]; rfl, rfl⟩
              · rw [hb] at HX
                have HXX := Lib.hid HX
                have hv : trB ((l.drop A).take (k - A)) = trB ((l.drop A).take (j - 1 - A)) := by rw [HTR.out, hsn, trB_snoc, hb]; rfl
                have HVV := Lib.hid hv
                clear hv hx hsx hsn HX hb
                go_wp2_with fail
                refine (HXX.out _).mono ?_
                rintro e w3 ⟨rfl, rfl⟩
                go_wp2
                go_round
                case rel => exact ⟨j - 1, by omega, by omega, by (try congr 1); omega, HVV.out⟩
                case measure => (simp [RowKit.intOf]) <;> omega
            · obtain rfl : j = A := by omega
              have hlt2 : ((j : Int) < j) = False := by simp
              obtain ⟨D, hD⟩ : ∃ D : ByteArray, D = ⟨#[]⟩ := ⟨_, rfl⟩
              have hsl := slice_mid S j j (by omega) (by omega) D (by rw [hD]; simp)
              have HVV := Lib.hid (show V = .tuple #[.string D, .int .i64 (k : Int)] by rw [HW.out, HTR.out, hD]; simp [trB_nil])
              clear hD
              go_wp2
              go_ret2
              exact ⟨by rw [HVV.out]; rfl, rfl⟩
    · obtain rfl : k = S.size := by omega
      have hlt1 : ((S.size : Int) < S.size) = False := by simp
      have h1 : wnP el (l.drop S.size) = 0 := by rw [List.drop_eq_nil_of_le (i := S.size) (by have := HLL.out; omega)]; rfl
      have HW := Lib.hid (HRS.out h1)
      clear h1 HRS HR
      go_wp2
      go_loop [9] (fun i => ∃ (j : Nat), A ≤ j ∧ j ≤ S.size ∧ i = .int .i64 j ∧ trB ((l.drop A).take (S.size - A)) = trB ((l.drop A).take (j - A))) (fun i => (RowKit.intOf i).toNat)
      case atStart => exact ⟨S.size, hAk, Nat.le_refl _, rfl, rfl⟩
      case round =>
        obtain ⟨j, hAj, hjk, rfl, htr⟩ := hrel
        have HTR := Lib.hid htr
        clear htr
        by_cases hjA : A < j
        · have hjA2 : (A : Int) < (j : Int) := by omega
          have hj1 : j - 1 < S.size := by omega
          obtain ⟨x, hx⟩ : ∃ x, l[j - 1]? = some x := ⟨l[j - 1]'(by have := HLL.out; omega), List.getElem?_eq_getElem _⟩
          have hsx := ba_get? S l HL.out.symm (j - 1) x hj1 hx
          have hix : ∀ W, (Instr.index 9 (.string S) (.int .i64 ((j : Int) - 1))).run Tryd.prog W = .ok (.int .u8 (x.toNat : Int)) W := fun W => by
            rw [run_index_string (P := Tryd.prog) W 9 _ .i64 ((j : Int) - 1) Tryd.underlying9, dif_pos ⟨by omega, by omega⟩]
            have e : ((j : Int) - 1).toNat = j - 1 := by omega
            congr 3
            simp only [e]
            rw [hsx]
          have hsn : (l.drop A).take (j - A) = (l.drop A).take (j - 1 - A) ++ [x] := by
            rw [show j - A = (j - 1 - A) + 1 by omega, List.take_add_one, List.getElem?_drop, show A + (j - 1 - A) = j - 1 by omega, hx]; rfl
          have HX := HB.out x
          cases hb : isBl x
          · rw [hb] at HX
            have HXX := Lib.hid HX
            have hv : trB ((l.drop A).take (S.size - A)) = (l.drop A).take (j - A) := by rw [HTR.out, hsn, trB_snoc, hb]; rfl
            obtain ⟨D, hD⟩ : ∃ D : ByteArray, D = ⟨((l.drop A).take (j - A)).toArray⟩ := ⟨_, rfl⟩
            have hsl := slice_mid S A j (by omega) (by omega) D (by rw [hD, ← HL.out])
            have HVV := Lib.hid (show V = .tuple #[.string D, .int .i64 (S.size : Int)] by rw [HW.out, hv, hD])
            clear hv hx hsx hsn HX hb hD
            go_wp2_with fail
            refine (HXX.out _).mono ?_
            rintro e w3 ⟨rfl, rfl⟩
            go_wp2
            go_ret2
            exact ⟨by rw [HVV.out]; rfl, rfl⟩
          · rw [hb] at HX
            have HXX := Lib.hid HX
            have hv : trB ((l.drop A).take (S.size - A)) = trB ((l.drop A).take (j - 1 - A)) := by rw [HTR.out, hsn, trB_snoc, hb]; rfl
            have HVV := Lib.hid hv
            clear hv hx hsx hsn HX hb
            go_wp2_with fail
            refine (HXX.out _).mono ?_
            rintro e w3 ⟨rfl, rfl⟩
            go_wp2
            go_round
            case rel => exact ⟨j - 1, by omega, by omega, by (try congr 1); omega, HVV.out⟩
            case measure => (simp [RowKit.intOf]) <;> omega
        · obtain rfl : j = A := by omega
          have hlt2 : ((j : Int) < j) = False := by simp
          obtain ⟨D, hD⟩ : ∃ D : ByteArray, D = ⟨#[]⟩ := ⟨_, rfl⟩
          have hsl := slice_mid S j j (by omega) (by omega) D (by rw [hD]; simp)
          have HVV := Lib.hid (show V = .tuple #[.string D, .int .i64 (S.size : Int)] by rw [HW.out, HTR.out, hD]; simp [trB_nil])
          clear hD
          go_wp2
          go_ret2
          exact ⟨by rw [HVV.out]; rfl, rfl⟩



end Go.Proofs.YtagjoebggghknaaDoor
