/- List; the reference's List. -/
import Derived.Test.YthnadcmejaciaaaDoorTrM
namespace Go.Proofs.YthnadcmejaciaaaDoor
open Go.RowKit
set_option linter.unusedVariables false
set_option linter.unusedSimpArgs false

theorem take_snoc (l : List UInt8) (k : Nat) (c : UInt8) (h : l[k]? = some c) : l.take (k + 1) = l.take k ++ [c] := by
  obtain ⟨hk, e⟩ := List.getElem?_eq_some_iff.1 h
  rw [List.take_succ_eq_append_getElem hk, e]
theorem pcn_u8 (c : UInt8) : pcn c.toNat = pc c := by unfold pcn; rw [UInt8.ofNat_toNat]

set_option maxRecDepth 100000 in
set_option maxHeartbeats 8000000 in
theorem list_c (S : ByteArray) (width : Int) (hs : S.size ≤ 10000) (hw2 : width ≤ 9223372036854775807) (w : World) :
    Calls Tryd.prog 23 #[.string S, .int .i64 width] w fun e w' => e = .returned (.string ⟨(lst S.data.toList width).toArray⟩) ∧ Below w.heap.size w w' := by
  obtain ⟨hz, hsz⟩ := zero_of_info (P := Tryd.prog) infoS
  obtain ⟨l, hl⟩ : ∃ l, l = S.data.toList := ⟨_, rfl⟩
  have hll : l.length = S.size := by rw [hl]; simp
  rw [← hl]
  have HL := Lib.hid hl
  have HLL := Lib.hid hll
  obtain ⟨B, hBd⟩ : ∃ B, B = w.heap.size := ⟨_, rfl⟩
  have hb0 : Below B w (w.alloc (.cells #[.pointer none, .slice none 0 0] 52)) := by rw [hBd]; exact (Below.refl _ w).alloc (Nat.le_refl _) _
  have hsb0 := SB.new w w.heap.size (Nat.le_refl _)
  obtain ⟨W0, hW0⟩ : ∃ W0, W0 = w.alloc (.cells #[.pointer none, .slice none 0 0] 52) := ⟨_, rfl⟩
  have hsz0 : W0.heap.size = B + 1 := by rw [hW0, World.size_alloc, hBd]
  rw [← hW0] at hb0 hsb0
  rw [← hBd] at hsb0
  have HPU := Lib.hid (putter_c w.heap.size width (w.alloc (.cells #[.pointer none, .slice none 0 0] 52)))
  have HT := Lib.hid (fun w => table_c w)
  obtain ⟨W1, hW1⟩ : ∃ W1, W1 = ((W0.alloc (.cells #[.pointer (some ⟨B, 0, none⟩)] 50)).alloc (.cells #[.int .i64 width] 3)).alloc (.cells #[.int .i64 0] 3) := ⟨_, rfl⟩
  have hsz1 : W1.heap.size = B + 4 := by rw [hW1]; simp [hsz0]
  have hB1 : Below B w W1 := by
    rw [hW1]
    exact ((hb0.alloc (by omega) _).alloc (by simp [hsz0]; omega) _).alloc (by simp [hsz0]; omega) _
  have hPE1 : PE B B (B + 1) width 0 [] W1 := by
    rw [hW1]
    refine ⟨?_, ?_, ?_, ?_, by omega⟩
    · have := ((One.new 50 W0 (.pointer (some ⟨B, 0, none⟩))).alloc (.cells #[.int .i64 width] 3)).alloc (.cells #[.int .i64 0] 3)
      rwa [hsz0] at this
    · have := (One.new 3 (W0.alloc (.cells #[.pointer (some ⟨B, 0, none⟩)] 50)) (.int .i64 width)).alloc (.cells #[.int .i64 0] 3)
      rwa [World.size_alloc, hsz0] at this
    · have := One.new 3 ((W0.alloc (.cells #[.pointer (some ⟨B, 0, none⟩)] 50)).alloc (.cells #[.int .i64 width] 3)) (.int .i64 0)
      rwa [World.size_alloc, World.size_alloc, hsz0] at this
    · refine hsb0.below ((((Below.refl _ W0).alloc (Nat.le_refl _) _).alloc ?_ _).alloc ?_ _)
      · simp
      · simp; omega
  have H1 := Lib.hid (And.intro hB1 hPE1)
  have HW0 := Lib.hid hW0
  have HW1 := Lib.hid hW1
  have HBD := Lib.hid hBd
  have HSZ1 := Lib.hid hsz1
  clear hb0 hsb0 hl hll hW0 hW1 hsz0 hsz1 hB1 hPE1 hBd
  go_enter Tryd.func23, Tryd.ntmps23
  go_wp2_with fail
  refine HPU.out.mono ?_
  rintro e w1 ⟨rfl, hw1⟩
  have hw1' : w1 = W1 := by rw [hw1, HW1.out, HW0.out, HBD.out]
  subst hw1'
  simp only [World.size_alloc, ← HBD.out]
  have hw1h := Lib.hid hw1
  clear hw1
  go_wp2_with fail
  refine (HT.out _).mono ?_
  rintro e w2 ⟨rfl, hB2⟩
  have lB2 := hB2.size
  rw [HSZ1.out] at lB2
  have hstn := store_new w2 rtS (sval pcn) sz (one_sval _)
  have hPE2 := (H1.out.2.beside hB2).beside ((Below.refl _ w2).alloc (Nat.le_refl _) (.cells (garr (sval pcn)) 66))
  have hG2 := GR.new 66 w2 (sval pcn)
  have hBB : Below B w (w2.alloc (.cells (garr (sval pcn)) 66)) := (H1.out.1.trans (hB2.mono (by rw [HSZ1.out]; omega))).alloc (by omega) _
  have H2 := Lib.hid (And.intro hBB (And.intro hPE2 hG2))
  clear hB2 hPE2 hG2 hBB
  go_wp2
  clear hstn
  go_loopw [14] (fun i wr => ∃ (k : Nat), k ≤ S.size ∧ i = .int .i64 k ∧ Below B w wr ∧ PE B B (B + 1) width (lineOf width 0 (l.take k)) (body width 0 (l.take k)) wr ∧ GR 66 wr w2.heap.size (sval pcn)) (fun i _ => S.size - (RowKit.intOf i).toNat)
  case atStart => exact ⟨0, by omega, rfl, H2.out.1, by simpa [lineOf, body] using H2.out.2.1, H2.out.2.2⟩
  case round =>
    obtain ⟨k, hk, rfl, hB, hPE, hG⟩ := hrel
    have lB : B ≤ wr.heap.size := by have := HBD.out; have := hB.size; omega
    by_cases hlt : k < S.size
    · have hkl : k < l.length := by have := HLL.out; omega
      obtain ⟨c, hc⟩ : ∃ c, l[k]? = some c := ⟨l[k], List.getElem?_eq_getElem hkl⟩
      have hsk := ba_get? S l HL.out.symm k c hlt hc
      have hcl := c.toNat_lt
      have hcell := hG.cell c.toNat hcl
      simp only [sval] at hcell
      rw [pcn_u8] at hcell
      have htk := take_snoc l k c hc
      have hle := line_le width 0 (l.take k)
      have hbl := body_len width 0 (l.take k)
      rw [List.length_take] at hle hbl
      have hpl := pc_len c
      have HP := Lib.hid (put_c B B (B + 1) width (lineOf width 0 (l.take k)) (body width 0 (l.take k)) (pc c) (by omega) (by omega) (by omega) hw2 wr hPE)
      have hbs := body_snoc width c 0 (l.take k)
      have hls := line_snoc width c 0 (l.take k)
      rw [← htk] at hbs hls
      have HBS := Lib.hid hbs
      have HLS := Lib.hid hls
      have HG := Lib.hid hG
      clear hc htk hle hbl hpl hPE hbs hls hG
      go_wp2_with fail
      refine HP.out.mono ?_
      rintro e w3 ⟨rfl, hPE3, hK3, hB3⟩
      have hG3 := hK3 _ _ _ (by omega) (by omega) (by decide) HG.out
      have HF := Lib.hid (And.intro (hB.trans hB3) (And.intro hPE3 hG3))
      clear hPE3 hK3 hB3 hG3
      go_wp2
      go_roundw
      case rel =>
        refine ⟨k + 1, by omega, by simp, HF.out.1, ?_, HF.out.2.2⟩
        rw [HBS.out, HLS.out]
        have := HF.out.2.1
        cases hb : brk width (lineOf width 0 (l.take k)) (pc c).length
        · rw [hb] at this; simpa using this
        · rw [hb] at this; simpa using this
      case measure => (simp [RowKit.intOf]) <;> omega
    · obtain rfl : k = S.size := by omega
      have hlt1 : ((S.size : Int) < S.size) = False := by simp
      rw [List.take_of_length_le (by have := HLL.out; omega)] at hPE
      have hbl := body_len width 0 l
      have hcl := cells_len (body width 0 l)
      have HW := Lib.hid (wstr_c B B (Lib.byteCells (body width 0 l)) ⟨#[36, 10]⟩ wr hPE.sb (by rw [hcl, show (⟨#[36, 10]⟩ : ByteArray).size = 2 from rfl]; have := HLL.out; omega) lB)
      clear hPE hG hbl hcl
      go_wp2_with fail
      refine HW.out.mono ?_
      rintro e w3 ⟨rfl, hsb3, hk3⟩
      rw [show Lib.byteCells (body width 0 l) ++ Lib.strCells ⟨#[36, 10]⟩ = Lib.byteCells (lst l width) from out_app _ [36, 10]] at hsb3
      have HST := Lib.hid (Tryd.Builder_String_any_k B B (lst l width) w3 hsb3 (by have := hk3.1.size; omega))
      have HB3 := Lib.hid (hB.trans hk3.1)
      clear hsb3 hk3
      go_wp2_with fail
      refine HST.out.mono ?_
      rintro e w4 ⟨rfl, _, hB4, _⟩
      have HB := Lib.hid (HB3.out.trans hB4)
      clear hB4
      go_wp2
      go_ret
      exact ⟨rfl, by have := HB.out; rwa [HBD.out] at this⟩

theorem ba_two (a b : List UInt8) (x y : ByteArray) (hx : x = ⟨a.toArray⟩) (hy : y = ⟨b.toArray⟩) : x ++ y = ⟨(a ++ b).toArray⟩ := by rw [hx, hy, ba_app]

set_option maxRecDepth 100000 in
set_option maxHeartbeats 8000000 in
theorem rlist_c (S : ByteArray) (width : Int) (hs : S.size ≤ 10000) (hw2 : width ≤ 9223372036854775807) (w : World) :
    Calls Tryd.prog 24 #[.string S, .int .i64 width] w fun e w' => e = .returned (.string ⟨(lst S.data.toList width).toArray⟩) ∧ Below w.heap.size w w' := by
  obtain ⟨l, hl⟩ : ∃ l, l = S.data.toList := ⟨_, rfl⟩
  have hll : l.length = S.size := by rw [hl]; simp
  rw [← hl]
  have HL := Lib.hid hl
  have HLL := Lib.hid hll
  have HPC := Lib.hid (fun b w => rpiece_c b w)
  clear hl hll
  go_enter Tryd.func24, Tryd.ntmps24
  go_wp2
  go_loopw [5, 6, 7] (fun o n i wr => ∃ (k : Nat) (t : ByteArray), k ≤ S.size ∧ i = .int .i64 k ∧ o = .string t ∧ n = .int .i64 (lineOf width 0 (l.take k)) ∧ t = ⟨(body width 0 (l.take k)).toArray⟩ ∧ Below w.heap.size w wr) (fun _ _ i _ => S.size - (RowKit.intOf i).toNat)
  case atStart => exact ⟨0, _, by omega, rfl, rfl, rfl, rfl, Below.refl _ _⟩
  case round =>
    obtain ⟨k, t, hk, rfl, rfl, rfl, ht, hB⟩ := hrel
    have lB := hB.size
    have hle := line_le width 0 (l.take k)
    have hbl := body_len width 0 (l.take k)
    rw [List.length_take] at hle hbl
    have hts : t.size ≤ 6 * k := by rw [ht, ba_size]; omega
    have HT := Lib.hid ht
    clear ht hbl
    by_cases hlt : k < S.size
    · have hkl : k < l.length := by have := HLL.out; omega
      obtain ⟨c, hc⟩ : ∃ c, l[k]? = some c := ⟨l[k], List.getElem?_eq_getElem hkl⟩
      have hsk := ba_get? S l HL.out.symm k c hlt hc
      have htk := take_snoc l k c hc
      have hpl := pc_len c
      obtain ⟨P, hP⟩ : ∃ P : ByteArray, P = ⟨(pc c).toArray⟩ := ⟨_, rfl⟩
      have hPs : P.size = (pc c).length := by rw [hP, ba_size]
      have hPP := HPC.out c
      rw [← hP] at hPP
      have HPP := Lib.hid hPP
      have hbs := body_snoc width c 0 (l.take k)
      have hls := line_snoc width c 0 (l.take k)
      rw [← htk] at hbs hls
      obtain ⟨n, hn⟩ : ∃ n, n = lineOf width 0 (l.take k) := ⟨_, rfl⟩
      rw [← hn] at hbs hls hle ⊢
      have HBS := Lib.hid hbs
      have HLS := Lib.hid hls
      have HP := Lib.hid hP
      have HPS := Lib.hid hPs
      have hb1 : (9223372036854775807 < t.size + 2) = False := by simp; omega
      have hb2 : (9223372036854775807 < (t.size : Int) + 2) = False := by simp; omega
      have hb3 : (9223372036854775807 < t.size + P.size) = False := by simp; omega
      have hb4 : (9223372036854775807 < (t.size : Int) + (P.size : Int)) = False := by simp; omega
      have hb5 : (9223372036854775807 < t.size + 2 + P.size) = False := by simp; omega
      have hb6 : (9223372036854775807 < (t.size : Int) + 2 + (P.size : Int)) = False := by simp; omega
      have hsum : (n : Int) + (P.size : Int) ≤ 2000000 := by omega
      have hPb : P.size ≤ 4 := by omega
      by_cases hb : brk width n (pc c).length = true
      · have hb' := brk_iff.1 hb
        have t1 : (2 : Int) ≤ width := hb'.1
        have t2 : (0 : Int) < (n : Int) := by omega
        have t3 : width - 1 < (n : Int) + (P.size : Int) := by omega
        have HB := Lib.hid hb
        clear hb hb' hc htk hpl hP hPs hbs hls hPP hn
        go_wp2_with fail
        refine (HPP.out _).mono ?_
        rintro e w1 ⟨rfl, hB1⟩
        have HB1 := Lib.hid (hB.trans (hB1.mono lB))
        clear hB1
        go_wp2
        go_roundw
        case rel =>
          refine ⟨k + 1, _, by omega, by simp, rfl, ?_, ?_, HB1.out⟩
          · rw [HLS.out, if_pos HB.out, ← HPS.out]
          · rw [HBS.out, if_pos HB.out]
            refine (ba_two _ (pc c) _ P (ba_two _ [92, 10] t _ HT.out rfl) HP.out).trans ?_
            simp
        case measure => (simp [RowKit.intOf]) <;> omega
      · have hb' : ¬ (2 ≤ width ∧ 0 < n ∧ width - 1 < (n : Int) + (P.size : Int)) := fun h => hb (brk_iff.2 (by rw [← hPs]; exact h))
        have HB := Lib.hid hb
        by_cases h1 : 2 ≤ width
        · by_cases h2 : 0 < n
          · have t3 : ¬ (width - 1 < (n : Int) + (P.size : Int)) := fun h => hb' ⟨h1, h2, h⟩
            have t2 : (0 : Int) < (n : Int) := by omega
            clear hb hb' hc htk hpl hP hPs hbs hls hPP hn h2
            go_wp2_with fail
            refine (HPP.out _).mono ?_
            rintro e w1 ⟨rfl, hB1⟩
            have HB1 := Lib.hid (hB.trans (hB1.mono lB))
            clear hB1
            go_wp2
            go_roundw
            case rel =>
              refine ⟨k + 1, _, by omega, by simp, rfl, ?_, ?_, HB1.out⟩
              · rw [HLS.out, if_neg HB.out, ← HPS.out]; simp
              · rw [HBS.out, if_neg HB.out]
                exact ba_two _ (pc c) _ P HT.out HP.out
            case measure => (simp [RowKit.intOf]) <;> omega
          · obtain rfl : n = 0 := by omega
            clear hb hb' hc htk hpl hP hPs hbs hls hPP hn h2
            go_wp2_with fail
            refine (HPP.out _).mono ?_
            rintro e w1 ⟨rfl, hB1⟩
            have HB1 := Lib.hid (hB.trans (hB1.mono lB))
            clear hB1
            go_wp2
            go_roundw
            case rel =>
              refine ⟨k + 1, _, by omega, by simp, rfl, ?_, ?_, HB1.out⟩
              · rw [HLS.out, if_neg HB.out, ← HPS.out]; simp
              · rw [HBS.out, if_neg HB.out]
                exact ba_two _ (pc c) _ P HT.out HP.out
            case measure => (simp [RowKit.intOf]) <;> omega
        · have t1 : ¬ (2 : Int) ≤ width := h1
          clear hb hb' hc htk hpl hP hPs hbs hls hPP hn h1
          go_wp2_with fail
          refine (HPP.out _).mono ?_
          rintro e w1 ⟨rfl, hB1⟩
          have HB1 := Lib.hid (hB.trans (hB1.mono lB))
          clear hB1
          go_wp2
          go_roundw
          case rel =>
            refine ⟨k + 1, _, by omega, by simp, rfl, ?_, ?_, HB1.out⟩
            · rw [HLS.out, if_neg HB.out, ← HPS.out]; simp
            · rw [HBS.out, if_neg HB.out]
              exact ba_two _ (pc c) _ P HT.out HP.out
          case measure => (simp [RowKit.intOf]) <;> omega
    · obtain rfl : k = S.size := by omega
      have hlt1 : ((S.size : Int) < S.size) = False := by simp
      have hb1 : (9223372036854775807 < t.size + 2) = False := by simp; omega
      have hb2 : (9223372036854775807 < (t.size : Int) + 2) = False := by simp; omega
      clear hts
      go_wp2
      go_ret
      refine ⟨?_, hB⟩
      have e1 : l.take S.size = l := List.take_of_length_le (by have := HLL.out; omega)
      have := ba_two _ [36, 10] t ⟨#[36, 10]⟩ HT.out rfl
      rw [e1] at this
      unfold lst
      rw [← this]
      rfl

end Go.Proofs.YthnadcmejaciaaaDoor
