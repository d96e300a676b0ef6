/- The reference's Parse. -/
import Derived.Test.YthnadcmejaciaaaDoorTrH
namespace Go.Proofs.YthnadcmejaciaaaDoor
open Go.RowKit
set_option linter.unusedVariables false
set_option linter.unusedSimpArgs false

theorem ba_app (a b : List UInt8) : (⟨a.toArray⟩ : ByteArray) ++ ⟨b.toArray⟩ = ⟨(a ++ b).toArray⟩ := by
  apply ByteArray.ext
  apply Array.ext'
  simp
theorem ba_size (a : List UInt8) : (⟨a.toArray⟩ : ByteArray).size = a.length := by simp [ByteArray.size]
theorem drop_one (l : List UInt8) (k : Nat) (c : UInt8) (h : l[k]? = some c) : l.drop k = c :: l.drop (k + 1) := by
  obtain ⟨hk, e⟩ := List.getElem?_eq_some_iff.1 h
  rw [List.drop_eq_getElem_cons hk, e]

set_option maxRecDepth 100000 in
set_option maxHeartbeats 8000000 in
theorem rparse_c (S : ByteArray) (hs : S.size ≤ 100000) (w : World) :
    Calls Tryd.prog 18 #[.string S] w fun e w' => e = .returned (prV (parse S.data.toList)) ∧ w' = w := by
  obtain ⟨l, hl⟩ : ∃ l, l = S.data.toList := ⟨_, rfl⟩
  have hll : l.length = S.size := by rw [hl]; simp
  rw [← hl]
  have HL := Lib.hid hl
  have HLL := Lib.hid hll
  clear hl hll
  go_enter Tryd.func18, Tryd.ntmps18
  go_wp2
  go_loop [5, 6] (fun o i => ∃ (k : Nat) (out : List UInt8) (t : ByteArray), k ≤ S.size ∧ i = .int .i64 k ∧ o = .string t ∧ t = ⟨out.toArray⟩ ∧ out.length ≤ k ∧ prs (l.length - k) (l.drop k) k out = parse l) (fun _ i => S.size - (RowKit.intOf i).toNat)
  case atStart => exact ⟨0, [], _, by omega, rfl, rfl, rfl, by simp, rfl⟩
  case round =>
    obtain ⟨k, out, t, hk, rfl, rfl, ht, hok, hpr⟩ := hrel
    have hts : t.size = out.length := by rw [ht, ba_size]
    have HT := Lib.hid ht
    clear ht
    by_cases hlt : k < S.size
    · have hkl : k < l.length := by have := HLL.out; omega
      obtain ⟨c, hc⟩ : ∃ c, l[k]? = some c := ⟨l[k], List.getElem?_eq_getElem hkl⟩
      have hsk := ba_get? S l HL.out.symm k c hlt hc
      have hdr := drop_one l k c hc
      have hst := prs_step l k out hkl
      rw [hst, hdr] at hpr
      clear hst
      by_cases h10 : c = 10
      · subst h10
        have q1 : ((S[k].toNat : Int) == 10) = true := by rw [hsk]; rfl
        rw [stp_10, if_pos rfl] at hpr
        have HP := Lib.hid hpr
        clear hsk hc hdr hpr hts
        go_wp2
        go_ret3
        exact ⟨by rw [← HP.out]; rfl, rfl⟩
      · have q1 : ((S[k].toNat : Int) == 10) = false := by rw [hsk]; exact (u8eq (n := 10) (by omega)).trans (by simpa using h10)
        by_cases h92 : c = 92
        · subst h92
          have q2 : ((S[k].toNat : Int) == 92) = true := by rw [hsk]; rfl
          have q3 : ((S[k].toNat : Int) != 92) = false := by rw [hsk]; rfl
          by_cases hlast : k + 1 = S.size
          · have q4 : ((k : Int) + 1 == S.size) = true := by rw [beq_iff_eq]; omega
            have e2 : l.drop (k + 1) = [] := List.drop_eq_nil_of_le (by have := HLL.out; omega)
            rw [e2, stp_92, if_pos rfl] at hpr
            have HP := Lib.hid hpr
            clear hsk hc hdr hpr hts e2 hlast
            go_wp2
            go_ret3
            exact ⟨by rw [← HP.out]; rfl, rfl⟩
          · have q4 : ((k : Int) + 1 == S.size) = false := by rw [beq_eq_false_iff_ne]; omega
            have hlt2 : k + 1 < S.size := by omega
            have hki : (k : Int) + 1 < S.size := by omega
            have hkl2 : k + 1 < l.length := by have := HLL.out; omega
            obtain ⟨d, hd⟩ : ∃ d, l[k + 1]? = some d := ⟨l[k + 1], List.getElem?_eq_getElem hkl2⟩
            have hsd := ba_get? S l HL.out.symm (k + 1) d hlt2 hd
            have hdr2 := drop_one l (k + 1) d hd
            rw [hdr2, stp_d] at hpr
            by_cases hd1 : d = 110
            · subst hd1
              have q5 : ((S[k + 1].toNat : Int) == 110) = true := by rw [hsd]; rfl
              have hb1 : (9223372036854775807 < t.size + 1) = False := by simp; omega
              have hb2 : (9223372036854775807 < (t.size : Int) + 1) = False := by simp; omega
              have HP := Lib.hid hpr
              clear hsk hc hdr hpr hdr2 hd hsd hlast hts
              go_wp2
              go_round
              case rel =>
                refine ⟨k + 2, out ++ [10], _, by omega, by simp; omega, rfl, ?_, by simp; omega, ?_⟩
                · rw [HT.out]
                  exact ba_app out [10]
                · rw [← HP.out]; rfl
              case measure => (simp [RowKit.intOf]) <;> omega
            · have q5 : ((S[k + 1].toNat : Int) == 110) = false := by rw [hsd]; exact (u8eq (n := 110) (by omega)).trans (by simpa using hd1)
              rw [if_neg hd1] at hpr
              by_cases hd23 : d = 92 ∨ d = 47
              · rw [if_pos hd23] at hpr
                obtain ⟨D, hD⟩ : ∃ D : ByteArray, D = ⟨#[d]⟩ := ⟨_, rfl⟩
                have hDs : D.size = 1 := by rw [hD]; rfl
                have hb3 : (9223372036854775807 < t.size + D.size) = False := by simp; omega
                have hb2 : (9223372036854775807 < (t.size : Int) + (D.size : Int)) = False := by simp; omega
                have hsl := slice_mid S (k + 1) (k + 2) (by omega) (by omega) D (by rw [hD, ← HL.out, hdr2]; simp)
                have hsl2 : ∀ W, (Instr.slice 9 (.string S) (some (.int .i64 ((k : Int) + 1))) (some (.int .i64 ((k : Int) + 2))) none).run Tryd.prog W = .ok (.string D) W := fun W => by
                  have := hsl W
                  exact this
                have HP := Lib.hid hpr
                have HD := Lib.hid hD
                clear hsk hc hdr hpr hdr2 hd hlast hD hDs hsl hts
                by_cases hd2 : d = 92
                · have q6 : ((S[k + 1].toNat : Int) == 92) = true := by rw [hsd, hd2]; rfl
                  clear hsd hd2 hd23
                  go_wp2
                  go_round
                  case rel =>
                    refine ⟨k + 2, out ++ [d], _, by omega, by simp; omega, rfl, ?_, by simp; omega, ?_⟩
                    · rw [HT.out, HD.out]
                      exact ba_app out [d]
                    · rw [← HP.out]; rfl
                  case measure => (simp [RowKit.intOf]) <;> omega
                · have q6 : ((S[k + 1].toNat : Int) == 92) = false := by rw [hsd]; exact (u8eq (n := 92) (by omega)).trans (by simpa using hd2)
                  have hd3 : d = 47 := hd23.resolve_left hd2
                  have q7 : ((S[k + 1].toNat : Int) == 47) = true := by rw [hsd, hd3]; rfl
                  clear hsd hd2 hd3 hd23
                  go_wp2
                  go_round
                  case rel =>
                    refine ⟨k + 2, out ++ [d], _, by omega, by simp; omega, rfl, ?_, by simp; omega, ?_⟩
                    · rw [HT.out, HD.out]
                      exact ba_app out [d]
                    · rw [← HP.out]; rfl
                  case measure => (simp [RowKit.intOf]) <;> omega
              · have q6 : ((S[k + 1].toNat : Int) == 92) = false := by rw [hsd]; exact (u8eq (n := 92) (by omega)).trans (by simp [show d ≠ 92 from fun e => hd23 (.inl e)])
                have q7 : ((S[k + 1].toNat : Int) == 47) = false := by rw [hsd]; exact (u8eq (n := 47) (by omega)).trans (by simp [show d ≠ 47 from fun e => hd23 (.inr e)])
                rw [if_neg hd23, if_pos rfl] at hpr
                have HP := Lib.hid hpr
                clear hsk hc hdr hpr hdr2 hd hlast hsd hts
                go_wp2
                go_ret3
                exact ⟨by rw [← HP.out]; rfl, rfl⟩
        · have q2 : ((S[k].toNat : Int) == 92) = false := by rw [hsk]; exact (u8eq (n := 92) (by omega)).trans (by simpa using h92)
          have q3 : ((S[k].toNat : Int) != 92) = true := by rw [hsk]; exact (u8ne (n := 92) (by omega)).trans (by simpa using h92)
          rw [stp_c c _ h10 h92, if_neg (by simp)] at hpr
          obtain ⟨D, hD⟩ : ∃ D : ByteArray, D = ⟨#[c]⟩ := ⟨_, rfl⟩
          have hDs : D.size = 1 := by rw [hD]; rfl
          have hb3 : (9223372036854775807 < t.size + D.size) = False := by simp; omega
          have hb2 : (9223372036854775807 < (t.size : Int) + (D.size : Int)) = False := by simp; omega
          have hsl := slice_mid S k (k + 1) (by omega) (by omega) D (by rw [hD, ← HL.out, hdr]; simp)
          have hsl2 : ∀ W, (Instr.slice 9 (.string S) (some (.int .i64 (k : Int))) (some (.int .i64 ((k : Int) + 1))) none).run Tryd.prog W = .ok (.string D) W := fun W => hsl W
          have HP := Lib.hid hpr
          have HD := Lib.hid hD
          clear hsk hc hdr hpr hD hDs hsl hts
          go_wp2
          go_round
          case rel =>
            refine ⟨k + 1, out ++ [c], _, by omega, by simp, rfl, ?_, by simp; omega, HP.out⟩
            rw [HT.out, HD.out]
            exact ba_app out [c]
          case measure => (simp [RowKit.intOf]) <;> omega
    · obtain rfl : k = S.size := by omega
      have hlt1 : ((S.size : Int) < S.size) = False := by simp
      rw [prs_end l out _ (by have := HLL.out; omega)] at hpr
      have HP := Lib.hid hpr
      clear hpr hts
      go_wp2
      go_ret3
      exact ⟨by rw [← HP.out, HT.out]; rfl, rfl⟩

end Go.Proofs.YthnadcmejaciaaaDoor
