/- byteAt; Parse; the reference's Parse. -/
import Derived.Test.YthnadcmejaciaaaDoorTrW
import Derived.Test.YthnadcmejaciaaaDoorTrF
import Derived.Laws.DeepStrings4
namespace Go.Proofs.YthnadcmejaciaaaDoor
open Go.RowKit
set_option linter.unusedVariables false
set_option linter.unusedSimpArgs false

theorem stp_10 (m : List UInt8) : stp (10 :: m) = (0, 0) := by cases m <;> simp [stp]
theorem stp_92 : stp [92] = (0, 0) := by simp [stp]
theorem stp_c (c : UInt8) (m : List UInt8) (h1 : c ≠ 10) (h2 : c ≠ 92) : stp (c :: m) = (c, 1) := by cases m <;> simp [stp, h1, h2]
theorem stp_d (d : UInt8) (m : List UInt8) : stp (92 :: d :: m) = if d = 110 then (10, 2) else if d = 92 ∨ d = 47 then (d, 2) else (0, 0) := by simp [stp]
theorem u8eq {c : UInt8} {n : Nat} (hn : n < 256) : ((c.toNat : Int) == (n : Int)) = decide (c = UInt8.ofNat n) := by
  rw [Bool.eq_iff_iff]
  simp only [beq_iff_eq, decide_eq_true_iff]
  constructor
  · intro h
    apply UInt8.toNat_inj.1
    rw [UInt8.toNat_ofNat']; omega
  · intro h
    rw [h, UInt8.toNat_ofNat']; omega
theorem u8ne {c : UInt8} {n : Nat} (hn : n < 256) : ((c.toNat : Int) != (n : Int)) = !decide (c = UInt8.ofNat n) := by rw [bne, u8eq hn]
theorem ba_get? (s : ByteArray) (l : List UInt8) (h : s.data.toList = l) (k : Nat) (c : UInt8) (hk : k < s.size) (hc : l[k]? = some c) : s[k] = c := by
  have h1 : l[k]? = s.data.toList[k]? := by rw [h]
  rw [hc, List.getElem?_eq_getElem (by simpa using hk)] at h1
  exact (Option.some.inj h1).symm

set_option maxRecDepth 100000 in
set_option maxHeartbeats 4000000 in
theorem byteat_c (S : ByteArray) (l : List UInt8) (hl : S.data.toList = l) (hne : l ≠ []) (w : World) :
    Calls Tryd.prog 25 #[.string S] w fun e w' => e = .returned (.tuple #[.int .u8 (stp l).1.toNat, .int .i64 (stp l).2]) ∧ w' = w := by
  have hsz : l.length = S.size := by rw [← hl]; simp
  have htl : S.toList = l := by rw [Lib.toList_data]; exact hl
  obtain ⟨c, m, rfl⟩ : ∃ c m, l = c :: m := by
    cases l with
    | nil => exact absurd rfl hne
    | cons c m => exact ⟨c, m, rfl⟩
  have h0 : 0 < S.size := by rw [← hsz]; simp
  have h0i : (0 : Int) < S.size := by omega
  have hc0 := ba_get? S _ hl 0 c h0 rfl
  clear hne
  by_cases h10 : c = 10
  · subst h10
    rw [stp_10]
    have q1 : ((S[0].toNat : Int) == 10) = true := by rw [hc0]; rfl
    clear hc0 hsz htl hl
    go_enter Tryd.func25, Tryd.ntmps25
    go_wp2
    go_ret2
    exact ⟨rfl, rfl⟩
  · have q1 : ((S[0].toNat : Int) == 10) = false := by rw [hc0]; exact (u8eq (n := 10) (by omega)).trans (by simpa using h10)
    by_cases h92 : c = 92
    · subst h92
      have q2 : ((S[0].toNat : Int) != 92) = false := by rw [hc0]; rfl
      cases m with
      | nil =>
        rw [stp_92]
        have q3 : (S.toList == [92]) = true := by rw [htl]; rfl
        clear hc0 hsz htl hl
        go_enter Tryd.func25, Tryd.ntmps25
        go_wp2
        go_ret2
        exact ⟨rfl, rfl⟩
      | cons d m =>
        rw [stp_d]
        have q3 : (S.toList == [92]) = false := by rw [htl]; simp
        have h1 : 1 < S.size := by rw [← hsz]; simp
        have h1i : (1 : Int) < S.size := by omega
        have hc1 := ba_get? S _ hl 1 d h1 rfl
        clear hc0 hsz htl hl
        by_cases hd1 : d = 110
        · subst hd1
          have q4 : ((S[1].toNat : Int) == 110) = true := by rw [hc1]; rfl
          clear hc1
          go_enter Tryd.func25, Tryd.ntmps25
          go_wp2
          go_ret2
          exact ⟨rfl, rfl⟩
        · have q4 : ((S[1].toNat : Int) == 110) = false := by rw [hc1]; exact (u8eq (n := 110) (by omega)).trans (by simpa using hd1)
          rw [if_neg hd1]
          by_cases hd2 : d = 92
          · subst hd2
            have q5 : ((S[1].toNat : Int) == 92) = true := by rw [hc1]; rfl
            have HC := Lib.hid hc1
            clear hc1
            go_enter Tryd.func25, Tryd.ntmps25
            go_wp2
            go_ret2
            exact ⟨by rw [HC.out]; rfl, rfl⟩
          · have q5 : ((S[1].toNat : Int) == 92) = false := by rw [hc1]; exact (u8eq (n := 92) (by omega)).trans (by simpa using hd2)
            by_cases hd3 : d = 47
            · subst hd3
              have q6 : ((S[1].toNat : Int) == 47) = true := by rw [hc1]; rfl
              have HC := Lib.hid hc1
              clear hc1
              go_enter Tryd.func25, Tryd.ntmps25
              go_wp2
              go_ret2
              exact ⟨by rw [HC.out]; rfl, rfl⟩
            · have q6 : ((S[1].toNat : Int) == 47) = false := by rw [hc1]; exact (u8eq (n := 47) (by omega)).trans (by simpa using hd3)
              rw [if_neg (by simp [hd2, hd3])]
              clear hc1
              go_enter Tryd.func25, Tryd.ntmps25
              go_wp2
              go_ret2
              exact ⟨rfl, rfl⟩
    · rw [stp_c c m h10 h92]
      have q2 : ((S[0].toNat : Int) != 92) = true := by rw [hc0]; exact (u8ne (n := 92) (by omega)).trans (by simpa using h92)
      have q3 : (S.toList == [92]) = false := by rw [htl]; simp [h92]
      have HC := Lib.hid hc0
      clear hc0 hsz htl hl
      go_enter Tryd.func25, Tryd.ntmps25
      go_wp2
      go_ret2
      exact ⟨by rw [HC.out]; rfl, rfl⟩

/-- What Parse answers. -/
def prV (r : List UInt8 × Nat × Nat) : Value := .tuple #[.string ⟨r.1.toArray⟩, .int .i64 r.2.1, .int .i64 r.2.2]
theorem slice_from (S : ByteArray) (k : Nat) (hk : k ≤ S.size) (T : ByteArray) (hT : T.data.toList = S.data.toList.drop k) (W : World) :
    (Instr.slice 9 (.string S) (some (.int .i64 (k : Int))) none none).run Tryd.prog W = .ok (.string T) W := by
  have e : S.extract (k : Int).toNat S.size = T := by
    apply ByteArray.ext
    apply Array.ext'
    rw [hT]
    simp only [ByteArray.data_extract, Array.toList_extract, Int.toNat_natCast, List.extract_eq_take_drop]
    rw [List.take_of_length_le (by simp)]
  rw [run_slice_string_from_if (P := Tryd.prog) W 9 _ .i64 (k : Int) Tryd.underlying9, if_pos ⟨by omega, by omega⟩, e]
theorem slice_mid (S : ByteArray) (i j : Nat) (hij : i ≤ j) (hj : j ≤ S.size) (T : ByteArray) (hT : T.data.toList = (S.data.toList.drop i).take (j - i)) (W : World) :
    (Instr.slice 9 (.string S) (some (.int .i64 (i : Int))) (some (.int .i64 (j : Int))) none).run Tryd.prog W = .ok (.string T) W := by
  have e : S.extract (i : Int).toNat (j : Int).toNat = T := by
    apply ByteArray.ext
    apply Array.ext'
    rw [hT]
    simp only [ByteArray.data_extract, Array.toList_extract, Int.toNat_natCast, List.extract_eq_take_drop]
  rw [run_slice_string_if (P := Tryd.prog) W 9 _ .i64 .i64 (i : Int) (j : Int) Tryd.underlying9, if_pos ⟨by omega, by omega⟩, if_pos ⟨by omega, by omega⟩, e]

theorem prs_len : ∀ (n : Nat) (l : List UInt8) (p : Nat) (out : List UInt8), (prs n l p out).1.length ≤ out.length + l.length
  | 0, _, _, out => by simp [prs]
  | n + 1, l, p, out => by
    simp only [prs]
    split
    · simp
    · split
      · simp
      · rename_i h0
        have := prs_len n (l.drop (stp l).2) (p + (stp l).2) (out ++ [(stp l).1])
        have h2 := stp_le l
        simp only [List.length_append, List.length_drop, List.length_cons, List.length_nil] at this
        omega

set_option maxRecDepth 100000 in
set_option maxHeartbeats 8000000 in
theorem parse_c (S : ByteArray) (hs : S.size ≤ 100000) (w : World) :
    Calls Tryd.prog 17 #[.string S] w fun e w' => e = .returned (prV (parse S.data.toList)) ∧ Below w.heap.size w w' := by
  obtain ⟨l, hl⟩ : ∃ l, l = S.data.toList := ⟨_, rfl⟩
  have hll : l.length = S.size := by rw [hl]; simp
  rw [← hl]
  have HL := Lib.hid hl
  have HLL := Lib.hid hll
  have hb0 : Below w.heap.size w (w.alloc (.cells #[.pointer none, .slice none 0 0] 52)) := (Below.refl _ w).alloc (Nat.le_refl _) _
  have H0 := Lib.hid (And.intro hb0 (SB.new w w.heap.size (Nat.le_refl _)))
  clear hb0 hl hll
  go_enter Tryd.func17, Tryd.ntmps17
  go_wp2
  go_loopw [6] (fun i wr => ∃ (k : Nat) (out : List UInt8), k ≤ S.size ∧ i = .int .i64 k ∧ out.length ≤ k ∧ prs (l.length - k) (l.drop k) k out = parse l ∧ Below w.heap.size w wr ∧ SB w.heap.size w.heap.size (Lib.byteCells out) wr) (fun i _ => S.size - (RowKit.intOf i).toNat)
  case atStart => exact ⟨0, [], by omega, rfl, by simp, rfl, H0.out.1, H0.out.2⟩
  case round =>
    obtain ⟨k, out, hk, rfl, hok, hpr, hB, hsb⟩ := hrel
    have lB := hB.size
    have hle := cells_len out
    by_cases hlt : k < S.size
    · have hkl : k < l.length := by have := HLL.out; omega
      obtain ⟨T, hT⟩ : ∃ T : ByteArray, T = ⟨(l.drop k).toArray⟩ := ⟨_, rfl⟩
      have hTd : T.data.toList = l.drop k := by rw [hT]
      have hne : l.drop k ≠ [] := by intro h; have := congrArg List.length h; simp at this; omega
      have hsl := slice_from S k (by omega) T (by rw [hTd, HL.out])
      have hst := prs_step l k out hkl
      have hsle := stp_le (l.drop k)
      rw [List.length_drop] at hsle
      have HBY := Lib.hid (fun w => byteat_c T _ hTd hne w)
      rw [hst] at hpr
      obtain ⟨b, n, hbn⟩ : ∃ b n, stp (l.drop k) = (b, n) := ⟨_, _, rfl⟩
      rw [hbn] at hpr HBY hsle
      simp only at hpr HBY hsle
      have HPR := Lib.hid hpr
      have hsle2 : k + n ≤ S.size := by have := HLL.out; omega
      have HBN := Lib.hid hbn
      clear hst hbn hTd hT hne hpr hle
      by_cases hn0 : n = 0
      · have hz : ((n : Int) == 0) = true := by simp [hn0]
        have HP : Hid (([], k, 100) = parse l) := Lib.hid (by have := HPR.out; rwa [if_pos hn0] at this)
        clear hn0 HPR
        go_wp2_with fail
        refine (HBY.out _).mono ?_
        rintro e w1 ⟨rfl, rfl⟩
        go_wp2
        go_ret3
        exact ⟨by rw [← HP.out]; rfl, hB⟩
      · have hz : ((n : Int) == 0) = false := by simp; omega
        have HP := Lib.hid (by have := HPR.out; rwa [if_neg hn0] at this)
        have HW := Lib.hid (fun h1 h2 => wbyte_c w.heap.size w.heap.size (Lib.byteCells out) b.toNat wr hsb h1 h2)
        have HO := Lib.hid hok
        clear hsb HPR
        go_wp2_with fail
        refine (HBY.out _).mono ?_
        rintro e w1 ⟨rfl, rfl⟩
        go_wp2_with fail
        refine (HW.out (by rw [cells_len]; omega) lB).mono ?_
        rintro e w2 ⟨rfl, hsb2, hk2⟩
        have HS2 := Lib.hid hsb2
        clear hsb2
        go_wp2
        go_roundw
        case rel =>
          refine ⟨k + n, out ++ [b], by omega, by simp, by simp; omega, HP.out, hB.trans hk2.1, ?_⟩
          have := HS2.out
          rw [show Lib.byteCells (out ++ [b]) = Lib.byteCells out ++ [.int .u8 b.toNat] by simp [Lib.byteCells]]
          exact this
        case measure => (simp [RowKit.intOf]) <;> omega
    · obtain rfl : k = S.size := by omega
      have hlt1 : ((S.size : Int) < S.size) = False := by simp
      rw [prs_end l out _ (by have := HLL.out; omega)] at hpr
      have ST := Lib.hid (Tryd.Builder_String_any_k w.heap.size w.heap.size out wr hsb lB)
      have HP := Lib.hid hpr
      clear hsb hpr
      go_wp2_with fail
      refine ST.out.mono ?_
      rintro e w1 ⟨rfl, _, hB1, _⟩
      have HB := Lib.hid (hB.trans hB1)
      clear hB1
      go_wp2
      go_ret3
      exact ⟨by rw [← HP.out]; rfl, HB.out⟩

end Go.Proofs.YthnadcmejaciaaaDoor
