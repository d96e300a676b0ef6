/- The reference's digits, read. -/
import Derived.Test.YtaamhjjdhebjfaaGreatDoorAdZb
import Derived.Test.YtaamhjjdhebjfaaGreatDoorAdM
namespace Go.Proofs.YtaamhjjdhebjfaaGreatDoor
open Go.RowKit Go.Lib
set_option linter.unusedVariables false
set_option linter.unusedSimpArgs false

theorem index_at (S : ByteArray) (k : Nat) (c : UInt8) (h : S.data.toList[k]? = some c) (w : World) : (Instr.index 9 (.string S) (.int .i64 (k : Int))).run Tryz.prog w = .ok (.int .u8 (c.toNat : Int)) w := by
  obtain ⟨hk, hc⟩ := List.getElem?_eq_some_iff.1 h
  have hsz := size_dl S
  rw [run_index_string (P := Tryz.prog) w 9 _ .i64 k Tryz.underlying9, dif_pos ⟨by omega, by omega⟩]
  have : S[(k : Int).toNat]'(by omega) = c := by rw [← hc]; simp; rfl
  rw [this]
theorem dgLoop_none {l : List UInt8} (h : dgLoop l 0 = none) : dgs l = (0, false) := by unfold dgs; rw [h]
theorem dgLoop_some {l : List UInt8} {n : Nat} (h : dgLoop l 0 = some n) : dgs l = ((n : Int), !l.isEmpty && (itoa (n : Int) == l)) := by unfold dgs; rw [h]
theorem dgLoop_step {l : List UInt8} {k : Nat} {c : UInt8} (h : l[k]? = some c) (n : Nat) : dgLoop (l.drop k) n = if c.toNat < 48 ∨ 57 < c.toNat ∨ 999999999 < n then none else dgLoop (l.drop (k + 1)) (n * 10 + (c.toNat - 48)) := by
  obtain ⟨hk, hc⟩ := List.getElem?_eq_some_iff.1 h
  rw [List.drop_eq_getElem_cons hk, hc]
  rfl

set_option maxRecDepth 100000 in
set_option maxHeartbeats 8000000 in
theorem rdigits_c (S : ByteArray) (hs : S.size ≤ 1000) (w : World) :
    Calls Tryz.prog 31 #[.string S] w fun e w' => e = .returned (.tuple #[.int .i64 (dgs S.data.toList).1, .bool (dgs S.data.toList).2]) ∧ Below w.heap.size w w' := by
  have hsz := size_dl S
  obtain ⟨l, hl⟩ : ∃ l, S.data.toList = l := ⟨_, rfl⟩
  have hix := fun k c w => index_at S k c (w := w)
  rw [hl] at hsz ⊢
  simp only [hl] at hix
  have HIX := Lib.hid hix
  have HL := Lib.hid hl
  obtain ⟨D1, hD1⟩ : ∃ x, dgs l = x := ⟨_, rfl⟩
  rw [hD1]
  have HD := Lib.hid hD1
  clear hix hl hD1
  go_enter Tryz.func31, Tryz.ntmps31
  go_wp2
  go_loop [4, 5] (fun v i => ∃ k n : Nat, k ≤ S.size ∧ i = .int .i64 k ∧ v = .int .i64 n ∧ n ≤ 9999999999 ∧ dgLoop (l.drop k) n = dgLoop l 0) (fun _ i => S.size - (RowKit.intOf i).toNat)
  case atStart => exact ⟨0, 0, by omega, rfl, rfl, by omega, by simp⟩
  case round =>
    obtain ⟨k, n, hk, rfl, rfl, hn, he⟩ := hrel
    by_cases hlt : k < S.size
    · have t0 : (k : Int) < (S.size : Int) := by omega
      obtain ⟨c, hc⟩ : ∃ c, l[k]? = some c := ⟨l[k]'(by omega), List.getElem?_eq_getElem (by omega)⟩
      have hi := fun w => HIX.out k c w hc
      rw [dgLoop_step hc] at he
      have hcl := c.toNat_lt
      have HE := Lib.hid he
      clear he hc
      by_cases c1 : c.toNat < 48
      · have r1 : (c.toNat : Int) < 48 := by omega
        have hd : D1 = (0, false) := by rw [← HD.out]; exact dgLoop_none (by rw [← HE.out, if_pos (Or.inl c1)])
        subst hd
        go_wp2
        go_ret2
        exact ⟨rfl, Below.refl _ _⟩
      · have r1 : ¬ (c.toNat : Int) < 48 := by omega
        by_cases c2 : 57 < c.toNat
        · have r2 : (57 : Int) < (c.toNat : Int) := by omega
          have r2' : decide ((57 : Int) < (c.toNat : Int)) = true := by simp; omega
          have hd : D1 = (0, false) := by rw [← HD.out]; exact dgLoop_none (by rw [← HE.out, if_pos (Or.inr (Or.inl c2))])
          subst hd
          go_wp2
          go_ret2
          exact ⟨rfl, Below.refl _ _⟩
        · have r2 : ¬ (57 : Int) < (c.toNat : Int) := by omega
          have r2' : decide ((57 : Int) < (c.toNat : Int)) = false := by simp; omega
          by_cases c3 : 999999999 < n
          · have r3 : (999999999 : Int) < (n : Int) := by omega
            have r3' : decide ((999999999 : Int) < (n : Int)) = true := by simp; omega
            have hd : D1 = (0, false) := by rw [← HD.out]; exact dgLoop_none (by rw [← HE.out, if_pos (Or.inr (Or.inr c3))])
            subst hd
            go_wp2
            go_ret2
            exact ⟨rfl, Below.refl _ _⟩
          · have r3 : ¬ (999999999 : Int) < (n : Int) := by omega
            have r3' : decide ((999999999 : Int) < (n : Int)) = false := by simp; omega
            have HE2 := Lib.hid (show dgLoop (l.drop (k + 1)) (n * 10 + (c.toNat - 48)) = dgLoop l 0 by rw [← HE.out, if_neg (by omega)])
            have w1 : IntKind.i64.wrap ((n : Int) * 10) = (n : Int) * 10 := by simp [IntKind.wrap, IntKind.signed, IntKind.bits]; omega
            have w2 : IntKind.u8.wrap ((c.toNat : Int) - 48) = (c.toNat : Int) - 48 := by simp [IntKind.wrap, IntKind.signed, IntKind.bits]; omega
            have w3 : IntKind.i64.wrap ((c.toNat : Int) - 48) = (c.toNat : Int) - 48 := by simp [IntKind.wrap, IntKind.signed, IntKind.bits]; omega
            have w4 : IntKind.i64.wrap ((n : Int) * 10 + ((c.toNat : Int) - 48)) = ((n * 10 + (c.toNat - 48) : Nat) : Int) := by simp [IntKind.wrap, IntKind.signed, IntKind.bits]; omega
            go_wp2
            go_round
            case rel => exact ⟨k + 1, n * 10 + (c.toNat - 48), by omega, by simp, rfl, by omega, HE2.out⟩
            case measure => simp [RowKit.intOf]; omega
    · obtain rfl : k = S.size := by omega
      have t0 : ¬ (S.size : Int) < (S.size : Int) := by omega
      have hdr : l.drop S.size = [] := List.drop_eq_nil_of_le (by omega)
      rw [hdr] at he
      have hd : D1 = ((n : Int), !l.isEmpty && (itoa (n : Int) == l)) := by rw [← HD.out]; exact dgLoop_some he.symm
      subst hd
      clear hdr he HD
      cases hle : l with
      | nil =>
        have t1 : S.toList.isEmpty = true := by rw [Lib.toList_data, HL.out, hle]; rfl
        have HQ := Lib.hid (show (!l.isEmpty && (itoa (n : Int) == l)) = false by rw [hle]; rfl)
        clear hle
        go_wp2
        go_ret2
        refine ⟨?_, Below.refl _ _⟩
        show Ending.returned (.tuple #[.int .i64 (n : Int), .bool false]) = Ending.returned (.tuple #[.int .i64 (n : Int), .bool (!l.isEmpty && (itoa (n : Int) == l))])
        rw [HQ.out]
      | cons a b =>
        have t1 : S.toList.isEmpty = false := by rw [Lib.toList_data, HL.out, hle]; rfl
        have HG := Lib.hid (fun w => digits_c n (by omega) (by omega) w)
        obtain ⟨J, hJ⟩ : ∃ J : ByteArray, J = ⟨(itoa (n : Int)).toArray⟩ := ⟨_, rfl⟩
        rw [← hJ] at HG
        have hq : (J.toList == S.toList) = (itoa (n : Int) == a :: b) := by rw [Lib.toList_data, Lib.toList_data, HL.out, hle, hJ]
        obtain ⟨Q, hQ⟩ : ∃ Q, (itoa (n : Int) == a :: b) = Q := ⟨_, rfl⟩
        rw [hQ] at hq
        have HQ := Lib.hid (show (!l.isEmpty && (itoa (n : Int) == l)) = Q by rw [hle, ← hQ]; rfl)
        clear hle hJ hQ
        go_wp2_with fail
        refine (HG.out _).mono ?_
        rintro e w1 ⟨rfl, hB⟩
        go_wp2
        go_ret2
        refine ⟨?_, hB⟩
        show Ending.returned (.tuple #[.int .i64 (n : Int), .bool Q]) = Ending.returned (.tuple #[.int .i64 (n : Int), .bool (!l.isEmpty && (itoa (n : Int) == l))])
        rw [HQ.out]

end Go.Proofs.YtaamhjjdhebjfaaGreatDoor
