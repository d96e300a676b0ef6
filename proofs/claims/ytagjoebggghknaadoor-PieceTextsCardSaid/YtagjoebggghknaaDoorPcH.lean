/- The reference of piece: Give, Untext. -/
import Derived.Test.YtagjoebggghknaaDoorPcG
namespace Go.Proofs.YtagjoebggghknaaDoor
open Go.RowKit
set_option linter.unusedVariables false
set_option linter.unusedSimpArgs false

theorem one_back (c : UInt8) (w : World) (D : ByteArray) (hD : D = ⟨#[c]⟩) :
    (convert 38 9 (.slice (some ⟨w.heap.size, 0, none⟩) 1 1)).run Tryd.prog (w.alloc (.cells #[.int .u8 c.toNat] 5)) = .ok (.string D) (w.alloc (.cells #[.int .u8 c.toNat] 5)) := by
  have := run_convert_bytes_back (P := Tryd.prog) (w.alloc (.cells #[.int .u8 c.toNat] 5)) 38 9 5 ⟨w.heap.size, 0, none⟩ 1 [c] Tryd.underlying38 Tryd.underlying5 Tryd.underlying9 (fun j hj => by
    rw [Addr.add_lit, Nat.zero_add]
    exact one_cell c w j hj)
  rw [hD]; exact this
theorem tkAt_0 (X : ByteArray) (d : UInt8) : tkAt X 0 d = tkV 0 (tkD d X.data.toList) := by
  unfold tkAt
  rw [show plc X.size 0 = 0 by unfold plc; rw [if_neg (by omega)]; rfl, List.drop_zero]
theorem str_eq_yes (X : ByteArray) (l : List UInt8) (S : ByteArray) (hl : l = S.data.toList) (hX : X = ⟨l.toArray⟩) : (X.toList == S.toList) = true ∧ X.toList = S.toList ∧ (X.toList != S.toList) = false := by
  have : X.toList = S.toList := by rw [Lib.toList_data, Lib.toList_data, hX, ← hl]
  rw [this]; simp
theorem str_eq_no (X : ByteArray) (x l : List UInt8) (S : ByteArray) (hl : l = S.data.toList) (hX : X = ⟨x.toArray⟩) (h : x ≠ l) : (X.toList == S.toList) = false ∧ ¬ X.toList = S.toList ∧ (X.toList != S.toList) = true := by
  have : ¬ X.toList = S.toList := by rw [Lib.toList_data, Lib.toList_data, hX, ← hl]; exact h
  exact ⟨by rw [beq_eq_false_iff_ne]; exact this, this, by rw [bne, show (X.toList == S.toList) = false by rw [beq_eq_false_iff_ne]; exact this]; rfl⟩

set_option maxRecDepth 100000 in
set_option maxHeartbeats 8000000 in
theorem rgive_c (S : ByteArray) (d : UInt8) (hs : S.size ≤ 10000) (w : World) :
    Calls Tryd.prog 13 #[.string S, .int .u8 d.toNat] w fun e w' => e = .returned (gvV (gvD d S.data.toList)) ∧ Below w.heap.size w w' := by
  obtain ⟨l, hl⟩ : ∃ l, l = S.data.toList := ⟨_, rfl⟩
  have hll : l.length = S.size := by rw [hl]; simp
  rw [← hl]
  obtain ⟨V, hV⟩ : ∃ V, V = gvV (gvD d l) := ⟨_, rfl⟩
  rw [← hV]
  have hgl := gvR_len d _ l (Nat.le_refl _)
  have HV := Lib.hid hV
  have HGL := Lib.hid hgl
  have HL := Lib.hid hl
  have HLL := Lib.hid hll
  have HTK := Lib.hid (fun X hX => rtake_c X 0 d hX)
  clear hl hll hV hgl
  go_enter Tryd.func13, Tryd.ntmps13
  go_wp2
  go_loop [6, 7] (fun o i => ∃ (k : Nat) (out : List UInt8) (t : ByteArray), k ≤ S.size ∧ i = .int .i64 k ∧ o = .string t ∧ t = ⟨out.toArray⟩ ∧ out.length ≤ 2 * k ∧ gvR d l = out ++ gvR d (l.drop k)) (fun _ i => S.size - (RowKit.intOf i).toNat)
  case atStart => exact ⟨0, [], _, by omega, rfl, rfl, rfl, by simp, rfl⟩
  case round =>
    obtain ⟨k, out, t, hk, rfl, rfl, ht, hok, hpr⟩ := hrel
    have hts : t.size = out.length := by rw [ht, ba_size]
    have HT := Lib.hid ht
    clear ht
    by_cases hlt : k < S.size
    · obtain ⟨c, hc⟩ : ∃ c, l[k]? = some c := ⟨l[k]'(by have := HLL.out; omega), List.getElem?_eq_getElem _⟩
      have hsc := ba_get? S l HL.out.symm (k) c (by omega) hc
      have hdrc := drop_one l (k) c hc
      rw [hdrc] at hpr
      have hb1 : (9223372036854775807 < t.size + 1) = False := by simp; omega
      have hb2 : (9223372036854775807 < (t.size : Int) + 1) = False := by simp; omega
      obtain ⟨D, hD⟩ : ∃ D : ByteArray, D = ⟨#[c]⟩ := ⟨_, rfl⟩
      have hDs : D.size = 1 := by rw [hD]; rfl
      have hD1 : (9223372036854775807 < t.size + D.size) = False := by simp; omega
      have hD2 : (9223372036854775807 < (t.size : Int) + (D.size : Int)) = False := by simp; omega
      have hDl := slice_mid S (k) (k + 1) (by omega) (by omega) D (by rw [hD, ← HL.out]; rw [hdrc]; simp)
      have hDl2 : ∀ W, (Instr.slice 9 (.string S) (some (.int .i64 ((k : Int)))) (some (.int .i64 ((k : Int) + 1))) none).run Tryd.prog W = .ok (.string D) W := fun W => hDl W
      have HD := Lib.hid hD
      have hb3 : (9223372036854775807 < t.size + 1 + D.size) = False := by simp; omega
      have hb4 : (9223372036854775807 < (t.size : Int) + 1 + (D.size : Int)) = False := by simp; omega
      clear hDl
      by_cases h92 : c = 92
      · have q5 : ((S[k].toNat : Int) == 92) = true := by rw [hsc]; exact (u8eq (n := 92) (by omega)).trans (decide_eq_true h92)
        by_cases hlast : k + 1 < S.size
        · have hki : (k : Int) + 1 < S.size := by omega
          obtain ⟨x, hx⟩ : ∃ x, l[k + 1]? = some x := ⟨l[k + 1]'(by have := HLL.out; omega), List.getElem?_eq_getElem _⟩
          have hsx := ba_get? S l HL.out.symm (k + 1) x (by omega) hx
          have hdrx := drop_one l (k + 1) x hx
          obtain ⟨F, hF⟩ : ∃ F : ByteArray, F = ⟨#[x]⟩ := ⟨_, rfl⟩
          have hFs : F.size = 1 := by rw [hF]; rfl
          have hF1 : (9223372036854775807 < t.size + F.size) = False := by simp; omega
          have hF2 : (9223372036854775807 < (t.size : Int) + (F.size : Int)) = False := by simp; omega
          have hFl := slice_mid S (k + 1) (k + 2) (by omega) (by omega) F (by rw [hF, ← HL.out]; rw [hdrx]; simp)
          have hFl2 : ∀ W, (Instr.slice 9 (.string S) (some (.int .i64 ((k : Int) + 1))) (some (.int .i64 ((k : Int) + 2))) none).run Tryd.prog W = .ok (.string F) W := fun W => hFl W
          have HF := Lib.hid hF
          have hb5 : (9223372036854775807 < t.size + 1 + D.size + F.size) = False := by simp; omega
          have hb6 : (9223372036854775807 < (t.size : Int) + 1 + (D.size : Int) + (F.size : Int)) = False := by simp; omega
          have hb7 : (9223372036854775807 < t.size + D.size + F.size) = False := by simp; omega
          have hb8 : (9223372036854775807 < (t.size : Int) + (D.size : Int) + (F.size : Int)) = False := by simp; omega
          clear hFl
          by_cases hcd : c = d
          · have q3 : ((S[k].toNat : Int) == (d.toNat : Int)) = true := by rw [hsc]; exact (u8d _ _).trans (decide_eq_true hcd)
            have hpr2 : gvR d l = (out ++ [92, c, x]) ++ gvR d (l.drop (k + 1 + 1)) := by rw [hpr, hdrx, gvR_two, if_pos hcd, if_pos h92]; simp
            have HPR := Lib.hid hpr2
            clear hpr hpr2 hsc hdrc hc hsx hdrx hx hcd hlast h92 hD hDs hts hF hFs
            go_wp2
            go_round
            case rel =>
              refine ⟨k + 2, out ++ [92, c, x], _, by omega, by simp; omega, rfl, ?_, by simp; omega, ?_⟩
              · rw [HT.out, HD.out, HF.out]
                apply ByteArray.ext; apply Array.ext'; simp
              · exact HPR.out
            case measure => (simp [RowKit.intOf]) <;> omega
          · have q3 : ((S[k].toNat : Int) == (d.toNat : Int)) = false := by rw [hsc]; exact (u8d _ _).trans (decide_eq_false hcd)
            have hpr2 : gvR d l = (out ++ [c, x]) ++ gvR d (l.drop (k + 1 + 1)) := by rw [hpr, hdrx, gvR_two, if_neg hcd, if_pos h92]; simp
            have HPR := Lib.hid hpr2
            clear hpr hpr2 hsc hdrc hc hsx hdrx hx hcd hlast h92 hD hDs hts hF hFs
            go_wp2
            go_round
            case rel =>
              refine ⟨k + 2, out ++ [c, x], _, by omega, by simp; omega, rfl, ?_, by simp; omega, ?_⟩
              · rw [HT.out, HD.out, HF.out]
                apply ByteArray.ext; apply Array.ext'; simp
              · exact HPR.out
            case measure => (simp [RowKit.intOf]) <;> omega
        · have hki : ¬ (k : Int) + 1 < S.size := by omega
          have e0 : l.drop (k + 1) = [] := List.drop_eq_nil_of_le (by have := HLL.out; omega)
          by_cases hcd : c = d
          · have q3 : ((S[k].toNat : Int) == (d.toNat : Int)) = true := by rw [hsc]; exact (u8d _ _).trans (decide_eq_true hcd)
            have hpr2 : gvR d l = (out ++ [92, c]) ++ gvR d (l.drop (k + 1)) := by rw [hpr, e0]; simp [gvR, hcd]
            have HPR := Lib.hid hpr2
            clear hpr hpr2 hsc hdrc hc hcd h92 hD hDs hts
            go_wp2
            go_round
            case rel =>
              refine ⟨k + 1, out ++ [92, c], _, by omega, by simp, rfl, ?_, by simp; omega, ?_⟩
              · rw [HT.out, HD.out]
                apply ByteArray.ext; apply Array.ext'; simp
              · exact HPR.out
            case measure => (simp [RowKit.intOf]) <;> omega
          · have q3 : ((S[k].toNat : Int) == (d.toNat : Int)) = false := by rw [hsc]; exact (u8d _ _).trans (decide_eq_false hcd)
            have hpr2 : gvR d l = (out ++ [c]) ++ gvR d (l.drop (k + 1)) := by rw [hpr, e0]; simp [gvR, hcd]
            have HPR := Lib.hid hpr2
            clear hpr hpr2 hsc hdrc hc hcd h92 hD hDs hts
            go_wp2
            go_round
            case rel =>
              refine ⟨k + 1, out ++ [c], _, by omega, by simp, rfl, ?_, by simp; omega, ?_⟩
              · rw [HT.out, HD.out]
                apply ByteArray.ext; apply Array.ext'; simp
              · exact HPR.out
            case measure => (simp [RowKit.intOf]) <;> omega
      · have q5 : ((S[k].toNat : Int) == 92) = false := by rw [hsc]; exact (u8eq (n := 92) (by omega)).trans (decide_eq_false h92)
        by_cases hcd : c = d
        · have q3 : ((S[k].toNat : Int) == (d.toNat : Int)) = true := by rw [hsc]; exact (u8d _ _).trans (decide_eq_true hcd)
          have hpr2 : gvR d l = (out ++ [92, c]) ++ gvR d (l.drop (k + 1)) := by rw [hpr, gvR_one _ _ _ h92, if_pos hcd]; simp
          have HPR := Lib.hid hpr2
          clear hpr hpr2 hsc hdrc hc hcd h92 hD hDs hts
          go_wp2
          go_round
          case rel =>
            refine ⟨k + 1, out ++ [92, c], _, by omega, by simp, rfl, ?_, by simp; omega, ?_⟩
            · rw [HT.out, HD.out]
              apply ByteArray.ext; apply Array.ext'; simp
            · exact HPR.out
          case measure => (simp [RowKit.intOf]) <;> omega
        · have q3 : ((S[k].toNat : Int) == (d.toNat : Int)) = false := by rw [hsc]; exact (u8d _ _).trans (decide_eq_false hcd)
          have hpr2 : gvR d l = (out ++ [c]) ++ gvR d (l.drop (k + 1)) := by rw [hpr, gvR_one _ _ _ h92, if_neg hcd]; simp
          have HPR := Lib.hid hpr2
          clear hpr hpr2 hsc hdrc hc hcd h92 hD hDs hts
          go_wp2
          go_round
          case rel =>
            refine ⟨k + 1, out ++ [c], _, by omega, by simp, rfl, ?_, by simp; omega, ?_⟩
            · rw [HT.out, HD.out]
              apply ByteArray.ext; apply Array.ext'; simp
            · exact HPR.out
          case measure => (simp [RowKit.intOf]) <;> omega
    · obtain rfl : k = S.size := by omega
      have hlt1 : ((S.size : Int) < S.size) = False := by simp
      rw [List.drop_eq_nil_of_le (i := S.size) (by have := HLL.out; omega), gvR, List.append_nil] at hpr
      have HR := Lib.hid hpr
      obtain ⟨D, hD⟩ : ∃ D : ByteArray, D = ⟨#[d]⟩ := ⟨_, rfl⟩
      have hDs : D.size = 1 := by rw [hD]; rfl
      have hrow := one_back d w D hD
      have hb1 : (9223372036854775807 < t.size + D.size) = False := by simp; omega
      have hb2 : (9223372036854775807 < (t.size : Int) + (D.size : Int)) = False := by simp; omega
      obtain ⟨X, hX⟩ : ∃ X, X = t ++ D := ⟨_, rfl⟩
      have hXs : X.size = t.size + D.size := by rw [hX]; simp
      have hXd : X.data.toList = gvR d l ++ [d] := by rw [hX, HT.out, hD, hpr]; simp
      have HTX := HTK.out X (by omega)
      rw [tkAt_0, hXd] at HTX
      rw [hX] at HTX
      have hg := gv_ref d l
      have hgl := HGL.out
      have hln : (gvR d l).length = t.size := by rw [hpr, hts]
      rw [hln] at hg hgl
      have htb : t.size ≤ 30000 := by have := HLL.out; omega
      have HB := Lib.hid ((Below.refl w.heap.size w).alloc (Nat.le_refl _) (.cells #[.int .u8 d.toNat] 5))
      clear hX hXs hXd hD hDs hpr hts
      cases hq : tkD d (gvR d l ++ [d]) with
      | none =>
        rw [hq] at HTX hg
        have HTX2 : ∀ w, Calls Tryd.prog 11 #[.string (t ++ D), .int .i64 0, .int .u8 d.toNat] w fun e w' => e = .returned (.tuple #[.string ⟨#[]⟩, .int .i64 0, .int .i64 120]) ∧ w' = w := fun w => HTX w
        have HXX := Lib.hid HTX2
        have hv : V = .tuple #[.string ⟨#[]⟩, .int .i64 1] := by rw [HV.out, hg]; rfl
        have HVV := Lib.hid hv
        clear hg HTX HTX2 hv hq hgl hln
        go_wp2_with fail
        refine (HXX.out _).mono ?_
        rintro e w3 ⟨rfl, rfl⟩
        go_wp2
        go_ret2
        exact ⟨by rw [HVV.out]; rfl, HB.out⟩
      | some y =>
        obtain ⟨x, n⟩ := y
        rw [hq] at HTX hg
        simp only at hg
        obtain ⟨Y, hY⟩ : ∃ Y : ByteArray, Y = ⟨x.toArray⟩ := ⟨_, rfl⟩
        have HTX2 : ∀ w, Calls Tryd.prog 11 #[.string (t ++ D), .int .i64 0, .int .u8 d.toNat] w fun e w' => e = .returned (.tuple #[.string Y, .int .i64 (n : Int), .int .i64 0]) ∧ w' = w := fun w => by
          have := HTX w
          simp only [tkV, Nat.zero_add] at this
          rw [hY]; exact this
        have HXX := Lib.hid HTX2
        clear HTX HTX2
        by_cases hxl : x = l
        · obtain ⟨p1, p2, p3⟩ := str_eq_yes Y l S HL.out (by rw [hY, hxl])
          by_cases hn : n = t.size + 1
          · have q3 : ((n : Int) != (t.size : Int) + 1) = false := by simp; omega
            have q4 : (n : Int) = (t.size : Int) + 1 := by omega
            have hv : V = .tuple #[.string t, .int .i64 0] := by rw [HV.out, hg, if_pos ⟨hxl, hn⟩, HR.out, HT.out]; rfl
            have HVV := Lib.hid hv
            clear hg hv hq hgl hln hY hxl hn q4
            go_wp2_with fail
            refine (HXX.out _).mono ?_
            rintro e w3 ⟨rfl, rfl⟩
            go_wp2
            go_ret2
            exact ⟨by rw [HVV.out]; rfl, HB.out⟩
          · have q3 : ((n : Int) != (t.size : Int) + 1) = true := by simp; omega
            have q4 : ¬ (n : Int) = (t.size : Int) + 1 := by omega
            have hv : V = .tuple #[.string ⟨#[]⟩, .int .i64 1] := by rw [HV.out, hg, if_neg (fun h => hn h.2)]; rfl
            have HVV := Lib.hid hv
            clear hg hv hq hgl hln hY hxl hn
            go_wp2_with fail
            refine (HXX.out _).mono ?_
            rintro e w3 ⟨rfl, rfl⟩
            go_wp2
            go_ret2
            exact ⟨by rw [HVV.out]; rfl, HB.out⟩
        · obtain ⟨p1, p2, p3⟩ := str_eq_no Y x l S HL.out hY hxl
          have hv : V = .tuple #[.string ⟨#[]⟩, .int .i64 1] := by rw [HV.out, hg, if_neg (fun h => hxl h.1)]; rfl
          have HVV := Lib.hid hv
          clear hg hv hq hgl hln hY hxl
          go_wp2_with fail
          refine (HXX.out _).mono ?_
          rintro e w3 ⟨rfl, rfl⟩
          go_wp2
          go_ret2
          exact ⟨by rw [HVV.out]; rfl, HB.out⟩

theorem ut_step (f : Bool) (c : UInt8) (r : List UInt8) : utP f (c :: r) = (if c = 92 ∨ c = 10 ∨ (f = true ∧ isBl c = true) then [92, c] else [c]) ++ utP false r := by rw [utP]; split <;> rfl
def utV : Option (List UInt8) → Value
  | some x => .tuple #[.string ⟨x.toArray⟩, .int .i64 0]
  | none => .tuple #[.string ⟨#[]⟩, .int .i64 1]

set_option maxRecDepth 100000 in
set_option maxHeartbeats 8000000 in
theorem runtext_c (S : ByteArray) (hs : S.size ≤ 10000) (w : World) :
    Calls Tryd.prog 23 #[.string S] w fun e w' => e = .returned (utV (utD S.data.toList)) ∧ w' = w := by
  obtain ⟨l, hl⟩ : ∃ l, l = S.data.toList := ⟨_, rfl⟩
  have hll : l.length = S.size := by rw [hl]; simp
  rw [← hl]
  obtain ⟨V, hV⟩ : ∃ V, V = utV (utD l) := ⟨_, rfl⟩
  rw [← hV]
  have htl : S.toList = l := by rw [Lib.toList_data]; exact hl.symm
  have HV := Lib.hid hV
  have HB := Lib.hid rblank_c
  clear hV
  by_cases h0 : l = []
  · have q1 : (S.toList == []) = true := by rw [htl, h0]; rfl
    have q2 : S.toList = [] := by rw [htl, h0]
    have q3 : S.isEmpty = true := by rw [ByteArray.isEmpty]; simp [← hll, h0]
    have hv : V = .tuple #[.string ⟨#[]⟩, .int .i64 1] := by rw [HV.out, h0]; rfl
    have HVV := Lib.hid hv
    clear hv htl hll hl h0
    go_enter Tryd.func23, Tryd.ntmps23
    go_wp2
    go_ret2
    exact ⟨by rw [HVV.out]; rfl, rfl⟩
  have q1 : (S.toList == []) = false := by rw [htl, beq_eq_false_iff_ne]; exact h0
  have q2 : ¬ S.toList = [] := by rw [htl]; exact h0
  have hpos : 0 < S.size := by rw [← hll]; exact List.length_pos_iff.2 h0
  have q3 : S.isEmpty = false := by
    rw [ByteArray.isEmpty, beq_eq_false_iff_ne]; omega
  obtain ⟨z, hz⟩ : ∃ z, l[S.size - 1]? = some z := ⟨l[S.size - 1]'(by omega), List.getElem?_eq_getElem _⟩
  have hlastz : l.getLast? = some z := by rw [List.getLast?_eq_getElem?, hll]; exact hz
  have hsz := ba_get? S l hl.symm (S.size - 1) z (by omega) hz
  have hix : ∀ W, (Instr.index 9 (.string S) (.int .i64 ((S.size : Int) - 1))).run Tryd.prog W = .ok (.int .u8 (z.toNat : Int)) W := fun W => by
    rw [run_index_string (P := Tryd.prog) W 9 _ .i64 ((S.size : Int) - 1) Tryd.underlying9, dif_pos ⟨by omega, by omega⟩]
    have e : ((S.size : Int) - 1).toNat = S.size - 1 := by omega
    congr 3
    simp only [e]
    rw [hsz]
  have HL := Lib.hid hl
  have HLL := Lib.hid hll
  clear hl hll htl hz hsz h0
  by_cases h10 : z = 10
  · have q4 : ((z.toNat : Int) != 10) = false := (u8ne (n := 10) (by omega)).trans (by rw [show decide (z = UInt8.ofNat 10) = true from decide_eq_true h10]; rfl)
    have q5 : (z.toNat : Int) = 10 := by simpa using q4
    obtain ⟨m, hm⟩ : ∃ m, m = l.dropLast := ⟨_, rfl⟩
    have hml : m.length = S.size - 1 := by rw [hm, List.length_dropLast, HLL.out]
    have hv : V = utV (some (utP true m)) := by rw [HV.out, hm]; unfold utD; rw [hlastz, h10, if_pos rfl]
    have hmg : ∀ j, j < S.size - 1 → m[j]? = l[j]? := fun j hj => by rw [hm, List.getElem?_dropLast, if_pos (by have := HLL.out; omega)]
    have HVV := Lib.hid hv
    have HMG := Lib.hid hmg
    have HML := Lib.hid hml
    clear hv hlastz h10 hm hml hmg q5 HV
    go_enter Tryd.func23, Tryd.ntmps23
    go_wp2
    clear hix q4
    go_loop [4, 5] (fun o i => ∃ (k : Nat) (out : List UInt8) (t : ByteArray), k ≤ S.size - 1 ∧ i = .int .i64 k ∧ o = .string t ∧ t = ⟨out.toArray⟩ ∧ out.length ≤ 2 * k ∧ utP true m = out ++ utP (decide (k = 0)) (m.drop k)) (fun _ i => S.size - 1 - (RowKit.intOf i).toNat)
    case atStart => exact ⟨0, [], _, by omega, rfl, rfl, rfl, by simp, rfl⟩
    case round =>
      obtain ⟨k, out, t, hk, rfl, rfl, ht, hok, hpr⟩ := hrel
      have hts : t.size = out.length := by rw [ht, ba_size]
      have HT := Lib.hid ht
      clear ht
      by_cases hlt : k < S.size - 1
      · have hli : (k : Int) < (S.size : Int) - 1 := by omega
        have hlt2 : k < S.size := by omega
        obtain ⟨c, hc⟩ : ∃ c, l[k]? = some c := ⟨l[k]'(by have := HLL.out; omega), List.getElem?_eq_getElem _⟩
        have hsc := ba_get? S l HL.out.symm k c hlt2 hc
        have hdrc := drop_one l k c hc
        have hmc := drop_one m k c (by rw [HMG.out k hlt]; exact hc)
        rw [hmc, ut_step] at hpr
        have hb1 : (9223372036854775807 < t.size + 1) = False := by simp; omega
        have hb2 : (9223372036854775807 < (t.size : Int) + 1) = False := by simp; omega
        obtain ⟨D, hD⟩ : ∃ D : ByteArray, D = ⟨#[c]⟩ := ⟨_, rfl⟩
        have hDs : D.size = 1 := by rw [hD]; rfl
        have hD1 : (9223372036854775807 < t.size + D.size) = False := by simp; omega
        have hD2 : (9223372036854775807 < (t.size : Int) + (D.size : Int)) = False := by simp; omega
        have hDl := slice_mid S (k) (k + 1) (by omega) (by omega) D (by rw [hD, ← HL.out]; rw [hdrc]; simp)
        have hDl2 : ∀ W, (Instr.slice 9 (.string S) (some (.int .i64 ((k : Int)))) (some (.int .i64 ((k : Int) + 1))) none).run Tryd.prog W = .ok (.string D) W := fun W => hDl W
        have HD := Lib.hid hD
        have hb3 : (9223372036854775807 < t.size + 1 + D.size) = False := by simp; omega
        have hb4 : (9223372036854775807 < (t.size : Int) + 1 + (D.size : Int)) = False := by simp; omega
        have hk1 : decide (k + 1 = 0) = false := rfl
        have HX := HB.out c
        rw [← hsc] at HX
        clear hDl hmc hdrc hc
        by_cases h92 : c = 92
        · have q5 : ((S[k].toNat : Int) == 92) = true := by rw [hsc]; exact (u8eq (n := 92) (by omega)).trans (decide_eq_true h92)
          rw [if_pos (.inl h92)] at hpr
          have HPR := Lib.hid hpr
          clear hpr hsc h92 HX hD hDs hts
          go_wp2
          go_round
          case rel =>
            refine ⟨k + 1, out ++ [92, c], _, by omega, by simp, rfl, ?_, by simp; omega, ?_⟩
            · rw [HT.out, HD.out]
              apply ByteArray.ext; apply Array.ext'; simp
            · rw [HPR.out, hk1]; simp
          case measure => (simp [RowKit.intOf]) <;> omega
        have q5 : ((S[k].toNat : Int) == 92) = false := by rw [hsc]; exact (u8eq (n := 92) (by omega)).trans (decide_eq_false h92)
        by_cases h10 : c = 10
        · have q6 : ((S[k].toNat : Int) == 10) = true := by rw [hsc]; exact (u8eq (n := 10) (by omega)).trans (decide_eq_true h10)
          rw [if_pos (.inr (.inl h10))] at hpr
          have HPR := Lib.hid hpr
          clear hpr hsc h92 h10 HX hD hDs hts
          go_wp2
          go_round
          case rel =>
            refine ⟨k + 1, out ++ [92, c], _, by omega, by simp, rfl, ?_, by simp; omega, ?_⟩
            · rw [HT.out, HD.out]
              apply ByteArray.ext; apply Array.ext'; simp
            · rw [HPR.out, hk1]; simp
          case measure => (simp [RowKit.intOf]) <;> omega
        have q6 : ((S[k].toNat : Int) == 10) = false := by rw [hsc]; exact (u8eq (n := 10) (by omega)).trans (decide_eq_false h10)
        by_cases hk0 : k = 0
        · have q7 : ((k : Int) == 0) = true := by simp; omega
          cases hb : isBl c
          · rw [hsc, hb, ← hsc] at HX
            rw [if_neg (by rintro (h | h | h); exact h92 h; exact h10 h; rw [hb] at h; exact absurd h.2 (by decide))] at hpr
            have HXX := Lib.hid HX
            have HPR := Lib.hid hpr
            clear hpr hsc h92 h10 HX hD hDs hts hb hk0
            go_wp2_with fail
            refine (HXX.out _).mono ?_
            rintro e w3 ⟨rfl, rfl⟩
            go_wp2
            go_round
            case rel =>
              refine ⟨k + 1, out ++ [c], _, by omega, by simp, rfl, ?_, by simp; omega, ?_⟩
              · rw [HT.out, HD.out]
                apply ByteArray.ext; apply Array.ext'; simp
              · rw [HPR.out, hk1]; simp
            case measure => (simp [RowKit.intOf]) <;> omega
          · rw [hsc, hb, ← hsc] at HX
            rw [if_pos (.inr (.inr ⟨decide_eq_true hk0, hb⟩))] at hpr
            have HXX := Lib.hid HX
            have HPR := Lib.hid hpr
            clear hpr hsc h92 h10 HX hD hDs hts hb hk0
            go_wp2_with fail
            refine (HXX.out _).mono ?_
            rintro e w3 ⟨rfl, rfl⟩
            go_wp2
            go_round
            case rel =>
              refine ⟨k + 1, out ++ [92, c], _, by omega, by simp, rfl, ?_, by simp; omega, ?_⟩
              · rw [HT.out, HD.out]
                apply ByteArray.ext; apply Array.ext'; simp
              · rw [HPR.out, hk1]; simp
            case measure => (simp [RowKit.intOf]) <;> omega
        · have q7 : ((k : Int) == 0) = false := by simp; omega
          have q8 : ¬ (k : Int) = 0 := by omega
          rw [if_neg (by rintro (h | h | h); exact h92 h; exact h10 h; exact absurd h.1 (by simp [hk0]))] at hpr
          have HPR := Lib.hid hpr
          clear hpr hsc h92 h10 HX hD hDs hts hk0
          go_wp2
          go_round
          case rel =>
            refine ⟨k + 1, out ++ [c], _, by omega, by simp, rfl, ?_, by simp; omega, ?_⟩
            · rw [HT.out, HD.out]
              apply ByteArray.ext; apply Array.ext'; simp
            · rw [HPR.out, hk1]; simp
          case measure => (simp [RowKit.intOf]) <;> omega
      · obtain rfl : k = S.size - 1 := by omega
        have hli : ((((S.size - 1 : Nat) : Int)) < (S.size : Int) - 1) = False := by simp; omega
        have hli2 : ¬ (((S.size - 1 : Nat) : Int)) < (S.size : Int) - 1 := by omega
        rw [List.drop_eq_nil_of_le (by have := HML.out; omega), utP, List.append_nil] at hpr
        have HPR := Lib.hid hpr
        clear hpr
        go_wp2
        go_ret2
        exact ⟨by rw [HVV.out, HPR.out, HT.out]; rfl, rfl⟩
  · have q4 : ((z.toNat : Int) != 10) = true := (u8ne (n := 10) (by omega)).trans (by rw [show decide (z = UInt8.ofNat 10) = false from decide_eq_false h10]; rfl)
    have q5 : ¬ (z.toNat : Int) = 10 := by simpa using q4
    have hv : V = .tuple #[.string ⟨#[]⟩, .int .i64 1] := by rw [HV.out]; unfold utD; rw [hlastz, if_neg (fun h => h10 (Option.some.inj h))]; rfl
    have HVV := Lib.hid hv
    clear hv hlastz h10
    go_enter Tryd.func23, Tryd.ntmps23
    go_wp2
    go_ret2
    exact ⟨by rw [HVV.out]; rfl, rfl⟩

end Go.Proofs.YtagjoebggghknaaDoor
