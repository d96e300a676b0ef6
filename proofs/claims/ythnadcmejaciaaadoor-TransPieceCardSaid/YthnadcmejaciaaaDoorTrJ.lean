/- Print; the reference's Print. -/
import Derived.Test.YthnadcmejaciaaaDoorTrI
import Derived.Test.YthnadcmejaciaaaDoorShelf
namespace Go.Proofs.YthnadcmejaciaaaDoor
open Go.RowKit
set_option linter.unusedVariables false
set_option linter.unusedSimpArgs false

def MaxL (w : World) : Prop := ∃ m, w.cell? ⟨0, 0, none⟩ = some (.int .i64 m) ∧ 0 < w.heap.size
theorem MaxL.below {w w' : World} (h : MaxL w) (hB : Below w.heap.size w w') : MaxL w' := by
  obtain ⟨m, h1, h2⟩ := h
  exact ⟨m, by rw [hB.cell (p := ⟨0, 0, none⟩) h2]; exact h1, Nat.lt_of_lt_of_le h2 hB.size⟩
theorem countB_one (S : ByteArray) (c : UInt8) : Lib.countB S ⟨#[c]⟩ ≤ S.size := Lib.countB_le ⟨#[c]⟩ (by simp [ByteArray.size]) S.size S (Nat.le_refl _)
theorem rpl_len (c : UInt8) (a b : UInt8) (s : List UInt8) : (rpl c [a, b] s).length ≤ 2 * s.length := by
  induction s with
  | nil => simp [rpl]
  | cons x l ih =>
    have e : rpl c [a, b] (x :: l) = (if x = c then [a, b] else [x]) ++ rpl c [a, b] l := by simp [rpl]
    rw [e, List.length_append, List.length_cons]
    split <;> simp <;> omega

theorem rep_c (S : ByteArray) (c a b : UInt8) (hs : S.size ≤ 1000000) (w : World) (hm : MaxL w) :
    Calls Tryd.prog 28 #[.string S, .string ⟨#[c]⟩, .string ⟨#[a, b]⟩] w fun e w' => e = .returned (.string ⟨(rpl c [a, b] S.data.toList).toArray⟩) ∧ Below w.heap.size w w' := by
  obtain ⟨m, h1, _⟩ := hm
  have hc := countB_one S c
  have := Tryd.strings_ReplaceAll S ⟨#[c]⟩ ⟨#[a, b]⟩ m w (by omega) h1 (by simp [ByteArray.size]) (by rw [show (⟨#[a, b]⟩ : ByteArray).size = 2 from rfl]; omega)
  rwa [replaceAll_one c _ _ (by simp)] at this

set_option maxRecDepth 100000 in
set_option maxHeartbeats 4000000 in
theorem print_c (S : ByteArray) (hs : S.size ≤ 100000) (w : World) (hm : MaxL w) :
    Calls Tryd.prog 19 #[.string S] w fun e w' => e = .returned (.string ⟨(prt S.data.toList).toArray⟩) ∧ Below w.heap.size w w' := by
  have h1 := rep_c S 92 92 92 (by omega) w hm
  obtain ⟨T, hT⟩ : ∃ T : ByteArray, T = ⟨(rpl 92 [92, 92] S.data.toList).toArray⟩ := ⟨_, rfl⟩
  have hTs : T.size ≤ 2 * S.size := by
    rw [hT, ba_size]
    have := rpl_len 92 92 92 S.data.toList
    simpa using this
  have h2 := fun w hm => rep_c T 10 92 110 (by omega) w hm
  have e : rpl 10 [92, 110] T.data.toList = prt S.data.toList := by rw [hT]; exact print_two _
  rw [← hT] at h1
  rw [e] at h2
  have H1 := Lib.hid h1
  have H2 := Lib.hid h2
  clear h1 h2 e hT
  go_enter Tryd.func19, Tryd.ntmps19
  go_wp2_with fail
  refine H1.out.mono ?_
  rintro e w1 ⟨rfl, hB1⟩
  go_wp2_with fail
  refine (H2.out _ (hm.below hB1)).mono ?_
  rintro e w2 ⟨rfl, hB2⟩
  have HB := Lib.hid (hB1.trans (hB2.mono hB1.size))
  clear hB1 hB2
  go_wp2
  go_ret
  exact ⟨rfl, HB.out⟩

set_option maxRecDepth 100000 in
set_option maxHeartbeats 8000000 in
theorem rprint_c (S : ByteArray) (hs : S.size ≤ 100000) (w : World) :
    Calls Tryd.prog 20 #[.string S] w fun e w' => e = .returned (.string ⟨(prt S.data.toList).toArray⟩) ∧ w' = w := by
  obtain ⟨l, hl⟩ : ∃ l, l = S.data.toList := ⟨_, rfl⟩
  have hll : l.length = S.size := by rw [hl]; simp
  rw [← hl]
  have HL := Lib.hid hl
  have HLL := Lib.hid hll
  clear hl hll
  go_enter Tryd.func20, Tryd.ntmps20
  go_wp2
  go_loop [3, 4] (fun o i => ∃ (k : Nat) (t : ByteArray), k ≤ S.size ∧ i = .int .i64 k ∧ o = .string t ∧ t = ⟨(prt (l.take k)).toArray⟩) (fun _ i => S.size - (RowKit.intOf i).toNat)
  case atStart => exact ⟨0, _, by omega, rfl, rfl, rfl⟩
  case round =>
    obtain ⟨k, t, hk, rfl, rfl, ht⟩ := hrel
    have hts : t.size ≤ 2 * k := by
      rw [ht, ba_size]
      have := (prt_len (l.take k)).2
      rw [List.length_take] at this; omega
    have HT := Lib.hid ht
    clear ht
    by_cases hlt : k < S.size
    · have hkl : k < l.length := by have := HLL.out; omega
      obtain ⟨c, hc⟩ : ∃ c, l[k]? = some c := ⟨l[k], List.getElem?_eq_getElem hkl⟩
      have hsk := ba_get? S l HL.out.symm k c hlt hc
      have hdr := drop_one l k c hc
      have htk : prt (l.take (k + 1)) = prt (l.take k) ++ pb c := by
        rw [List.take_succ_eq_append_getElem hkl, show l[k] = c from (List.getElem?_eq_some_iff.1 hc).2]
        simp [prt]
      by_cases h10 : c = 10
      · subst h10
        have q1 : ((S[k].toNat : Int) == 10) = true := by rw [hsk]; rfl
        have hb1 : (9223372036854775807 < t.size + 2) = False := by simp; omega
        have hb2 : (9223372036854775807 < (t.size : Int) + 2) = False := by simp; omega
        have HTK := Lib.hid htk
        clear hsk hc hdr htk
        go_wp2
        go_round
        case rel =>
          refine ⟨k + 1, _, by omega, by simp, rfl, ?_⟩
          rw [HT.out, HTK.out]
          exact ba_app _ [92, 110]
        case measure => (simp [RowKit.intOf]) <;> omega
      · have q1 : ((S[k].toNat : Int) == 10) = false := by rw [hsk]; exact (u8eq (n := 10) (by omega)).trans (by simpa using h10)
        by_cases h92 : c = 92
        · subst h92
          have q2 : ((S[k].toNat : Int) == 92) = true := by rw [hsk]; rfl
          have hb1 : (9223372036854775807 < t.size + 2) = False := by simp; omega
          have hb2 : (9223372036854775807 < (t.size : Int) + 2) = False := by simp; omega
          have HTK := Lib.hid htk
          clear hsk hc hdr htk
          go_wp2
          go_round
          case rel =>
            refine ⟨k + 1, _, by omega, by simp, rfl, ?_⟩
            rw [HT.out, HTK.out]
            exact ba_app _ [92, 92]
          case measure => (simp [RowKit.intOf]) <;> omega
        · have q2 : ((S[k].toNat : Int) == 92) = false := by rw [hsk]; exact (u8eq (n := 92) (by omega)).trans (by simpa using h92)
          obtain ⟨D, hD⟩ : ∃ D : ByteArray, D = ⟨#[c]⟩ := ⟨_, rfl⟩
          have hDs : D.size = 1 := by rw [hD]; rfl
          have hb3 : (9223372036854775807 < t.size + D.size) = False := by simp; omega
          have hb2 : (9223372036854775807 < (t.size : Int) + (D.size : Int)) = False := by simp; omega
          have hsl := slice_mid S k (k + 1) (by omega) (by omega) D (by rw [hD, ← HL.out, hdr]; simp)
          have hsl2 : ∀ W, (Instr.slice 9 (.string S) (some (.int .i64 (k : Int))) (some (.int .i64 ((k : Int) + 1))) none).run Tryd.prog W = .ok (.string D) W := fun W => hsl W
          have HD := Lib.hid hD
          have hpb : pb c = [c] := by unfold pb; rw [if_neg h10, if_neg h92]
          rw [hpb] at htk
          have HTK := Lib.hid htk
          clear hsk hc hdr hD hDs hsl htk hpb
          go_wp2
          go_round
          case rel =>
            refine ⟨k + 1, _, by omega, by simp, rfl, ?_⟩
            rw [HT.out, HD.out, HTK.out]
            exact ba_app _ [c]
          case measure => (simp [RowKit.intOf]) <;> omega
    · obtain rfl : k = S.size := by omega
      have hlt1 : ((S.size : Int) < S.size) = False := by simp
      clear hts
      go_wp2
      go_ret
      refine ⟨?_, rfl⟩
      rw [HT.out, List.take_of_length_le (by have := HLL.out; omega)]
      rfl

end Go.Proofs.YthnadcmejaciaaaDoor
