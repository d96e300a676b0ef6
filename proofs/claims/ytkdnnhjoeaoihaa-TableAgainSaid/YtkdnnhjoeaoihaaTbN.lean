/- The reference's Split. -/
import Derived.Test.YtkdnnhjoeaoihaaTbM
import Derived.Laws.DeepStrings4
namespace Go.Proofs.Ytkdnnhjoeaoihaa
open Go.RowKit Go.Shelf
set_option linter.unusedVariables false
set_option linter.unusedSimpArgs false

theorem no10_cut : ∀ (a r : List UInt8), fnd a = false → cut1 (a ++ 10 :: r) = a ∧ rest1 (a ++ 10 :: r) = r ∧ fnd (a ++ 10 :: r) = true
  | [], r, _ => by simp [cut1, rest1, fnd]
  | b :: l, r, h => by
    simp only [fnd, List.any_cons, Bool.or_eq_false_iff] at h
    have h2 : (b != 10) = true := by simp [bne, h.1]
    obtain ⟨i1, i2, i3⟩ := no10_cut l r h.2
    unfold cut1 rest1 fnd at *
    simp only [List.cons_append, List.takeWhile_cons, List.dropWhile_cons, h2, if_true, List.any_cons]
    exact ⟨by rw [i1], i2, by rw [i3]; simp⟩
theorem spl_end (a r : List UInt8) (h : fnd a = false) : spl (a ++ 10 :: r) = (⟨a.toArray⟩, true) :: spl r := by
  obtain ⟨h1, h2, h3⟩ := no10_cut a r h
  rw [spl_cons _ (by simp), h1, h2, h3]
theorem spl_last (a : List UInt8) (h : fnd a = false) : spl a = if a = [] then [] else [(⟨a.toArray⟩, false)] := by
  by_cases ha : a = []
  · subst ha; rw [if_pos rfl]; exact spl_nil
  · obtain ⟨h1, h2⟩ := cut_none a h
    rw [if_neg ha, spl_cons a ha, h1, h2, h, spl_nil]
theorem spl_bound (s : List UInt8) : (spl s).length ≤ s.length := spl_len s.length s (Nat.le_refl _)

set_option maxRecDepth 100000 in
set_option maxHeartbeats 8000000 in
theorem rsplit_c (s : List UInt8) (hs : s.length ≤ 100000) (w : World) :
    Calls Try.prog 24 #[.string ⟨s.toArray⟩] w fun e w' => (∃ q n cap, e = .returned (.slice q n cap) ∧ Lines w' q n cap (spl s)) ∧ Below w.heap.size w w' := by
  obtain ⟨S, hS⟩ : ∃ t : ByteArray, t = ⟨s.toArray⟩ := ⟨_, rfl⟩
  have hsz : S.size = s.length := by rw [hS]; simp [ByteArray.size]
  have HS := Lib.hid hS
  have HB := Lib.hid (spl_bound s)
  rw [← hS]
  clear hS
  go_enter Try.func24, Try.ntmps24
  go_wp2
  go_loopw [3, 4, 5] (fun v d i wr => ∃ (k m : Nat) (v' : Value) (out : List Ln) (a : List UInt8) (t : ByteArray), v = v' ∧ k ≤ S.size ∧ i = .int .i64 k ∧ d = .string t ∧ t = ⟨a.toArray⟩ ∧ fnd a = false ∧ a.length ≤ k ∧ out ++ spl (a ++ s.drop k) = spl s ∧ wr.ownsRow w.heap.size 57 2 v' m (lrow out) ∧ Below w.heap.size w wr) (fun _ _ i _ => S.size - (RowKit.intOf i).toNat)
  case atStart => exact ⟨0, 0, _, [], [], _, rfl, by omega, rfl, rfl, rfl, rfl, by simp, by simp, World.ownsRow_made w #[] 0 (Nat.le_refl _) (Nat.zero_le _) (by simp), (Below.refl _ w).alloc (Nat.le_refl _) _⟩
  case round =>
    obtain ⟨k, m, v, out, a, t, rfl, hk, rfl, rfl, ht, hna, hal, hsp, hown, hB⟩ := hrel
    have hml : m ≤ 100000 := by
      have := own_lenl hown
      have h2 := congrArg List.length hsp
      have h3 := HB.out
      rw [List.length_append] at h2
      omega
    have lB := hB.size
    by_cases hlt : k < S.size
    · have hks : k < s.length := by omega
      obtain ⟨c, hcv⟩ : ∃ c, c = s[k] := ⟨_, rfl⟩
      have hSk : S[k] = c := by
        have hd : S.data.toList = s := by rw [HS.out]
        have : S.data.toList[k]? = s[k]? := by rw [hd]
        rw [List.getElem?_eq_getElem hks, ← hcv] at this
        have h2 : S.data.toList[k]? = some S[k] := by
          rw [List.getElem?_eq_getElem (by simpa using hlt)]; rfl
        rw [h2] at this
        exact Option.some.inj this
      have hdr : s.drop k = c :: s.drop (k + 1) := by rw [hcv]; exact List.drop_eq_getElem_cons hks
      have hki : (k : Int) < S.size := by omega
      have HSP : Hid (out ++ spl (a ++ c :: s.drop (k + 1)) = spl s) := Lib.hid (by rw [← hdr]; exact hsp)
      have HT := Lib.hid ht
      have HNA := Lib.hid hna
      have HSK := Lib.hid hSk
      clear hdr hcv hsp ht hna hsz
      by_cases h10 : c = 10
      · have hq : ((S[k].toNat : Int) == 10) = true := by rw [hSk, h10]; rfl
        clear hSk
        go_wp2_with (at_builtin; refine wp_app2 rfl _ _ rfl w wr out (t, true) hown rfl rfl hB (by omega) ?_)
        intro v1 w1 hown1 hB1
        go_wp2
        go_roundw
        case rel =>
          refine ⟨k + 1, m + 1, _, out ++ [(t, true)], [], _, rfl, by omega, by simp, rfl, rfl, rfl, by simp, ?_, hown1, hB1⟩
          rw [← HSP.out, h10, spl_end a _ HNA.out, HT.out]
          simp
        case measure => (simp [RowKit.intOf]) <;> omega
      · have hq : ((S[k].toNat : Int) == 10) = false := by
          rw [hSk]; simp only [beq_eq_false_iff_ne, ne_eq]
          intro e; exact h10 (UInt8.toNat_inj.1 (by have : c.toNat = 10 := by omega
                                                    rw [this]; rfl))
        clear hSk
        obtain ⟨C, hC⟩ : ∃ C : ByteArray, C = ⟨#[c]⟩ := ⟨_, rfl⟩
        have hC1 : C.size = 1 := by rw [hC]; rfl
        have hts : t.size = a.length := by rw [HT.out]; simp [ByteArray.size]
        have hb3 : (9223372036854775807 < t.size + C.size) = False := by simp; omega
        have hb2 : (9223372036854775807 < (t.size : Int) + (C.size : Int)) = False := by simp; omega
        have hsl : ∀ W, (Instr.slice 9 (.string S) (some (.int .i64 (k : Int))) (some (.int .i64 ((k : Int) + 1))) none).run Try.prog W = .ok (.string C) W := fun W => by
          have e : S.extract (k : Int).toNat ((k : Int) + 1).toNat = C := by
            rw [hC]
            apply ByteArray.ext
            apply Array.ext'
            have hd : S.data.toList = s := by rw [HS.out]
            have h1 : s[k] = c := by
              have := HSK.out
              have h2 : S.data.toList[k]? = s[k]? := by rw [hd]
              rw [List.getElem?_eq_getElem hks, List.getElem?_eq_getElem (by simpa using hlt)] at h2
              rw [← this]; exact (Option.some.inj h2).symm
            have h3 : ((k : Int) + 1).toNat = k + 1 := by omega
            simp only [ByteArray.data_extract, Array.toList_extract, hd, h3, Int.toNat_natCast, List.extract_eq_take_drop, Nat.add_sub_cancel_left]
            rw [List.drop_eq_getElem_cons hks, h1]; rfl
          rw [run_slice_string_if (P := Try.prog) W 9 _ .i64 .i64 (k : Int) ((k : Int) + 1) Try.underlying9, if_pos ⟨by omega, by omega⟩, if_pos ⟨by omega, by omega⟩, e]
        have HCC := Lib.hid hC
        have HN2 : Hid (fnd (a ++ [c]) = false) := Lib.hid (by
          have := HNA.out
          simp only [fnd, List.any_append, List.any_cons, List.any_nil, Bool.or_false, Bool.or_eq_false_iff] at this ⊢
          exact ⟨this, by simpa using h10⟩)
        clear hts hC hC1
        go_wp2
        go_roundw
        case rel =>
          refine ⟨k + 1, m, _, out, a ++ [c], _, rfl, by omega, by simp, rfl, ?_, HN2.out, by simp; omega, ?_, hown, hB⟩
          · rw [HT.out, HCC.out]
            apply ByteArray.ext
            apply Array.ext'
            simp
          · rw [← HSP.out]; simp
        case measure => (simp [RowKit.intOf]) <;> omega
    · obtain rfl : k = S.size := by omega
      have hlt1 : ((S.size : Int) < S.size) = False := by simp
      have hend : out ++ spl a = spl s := by rw [← hsp, List.drop_eq_nil_of_le (by omega)]; simp
      rw [spl_last a hna] at hend
      have htl : t.toList = a := by rw [ht]; exact tl_mk a
      have HE := Lib.hid hend
      clear hsp hend hna ht
      by_cases ha : a = []
      · have e1 : t.toList.isEmpty = true := by rw [htl, ha]; rfl
        have e2 : (!t.toList.isEmpty) = false := by rw [e1]; rfl
        have e3 : t.toList = [] := by rw [htl, ha]
        have HF : Hid (out = spl s) := Lib.hid (by have := HE.out; rw [if_pos ha] at this; simpa using this)
        obtain ⟨q, cap', rfl, hF, _⟩ := lines_of_own hown
        clear htl HE
        go_wp2
        go_ret
        exact ⟨⟨_, _, _, rfl, by rw [← HF.out]; exact hF⟩, hB⟩
      · have e1 : t.toList.isEmpty = false := by rw [htl]; cases a <;> simp_all
        have e2 : (!t.toList.isEmpty) = true := by rw [e1]; rfl
        have e3 : ¬ t.toList = [] := by rw [htl]; exact ha
        have HF : Hid (out ++ [(t, false)] = spl s) := Lib.hid (by
          have := HE.out
          rw [if_neg ha] at this
          rw [← this]
          have : t = ⟨a.toArray⟩ := by
            apply ByteArray.ext
            apply Array.ext'
            rw [← htl, Lib.toList_data]
          rw [this])
        clear htl HE
        go_wp2_with (at_builtin; refine wp_app2 rfl _ _ rfl w wr out (t, false) hown rfl rfl hB (by omega) ?_)
        intro v1 w1 hown1 hB1
        obtain ⟨q, cap', rfl, hF, _⟩ := lines_of_own hown1
        go_wp2
        go_ret
        exact ⟨⟨_, _, _, rfl, by rw [← HF.out]; exact hF⟩, hB1⟩

end Go.Proofs.Ytkdnnhjoeaoihaa
