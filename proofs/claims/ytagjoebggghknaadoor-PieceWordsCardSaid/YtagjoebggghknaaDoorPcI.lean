/- piece: Number, Word, Give, Untext. -/
import Derived.Test.YtagjoebggghknaaDoorPcH
import Derived.Test.YtagjoebggghknaaDoorShelf
import Derived.Lib.SmallJoins
import Derived.Lib.ReplaceLaws
import Derived.Lib.Replace
import Derived.Lib.IndexBytes
namespace Go.Proofs.YtagjoebggghknaaDoor
open Go.RowKit
set_option linter.unusedVariables false
set_option linter.unusedSimpArgs false

/-- What piece asks of the library's variables. -/
structure Fit6 (w : World) : Prop where
  max : ∃ m, w.cell? ⟨2, 0, none⟩ = some (.int .i64 m)
  rng : ∃ tp p, w.var? Tryd.prog "strconv.ErrRange" = some #[.iface tp p]
theorem rngNamed : ∃ g, Tryd.prog.globalNamed "strconv.ErrRange" = some g := Option.isSome_iff_exists.1 (by kernel_rfl)
theorem Fit6.below {w w' : World} (h : Fit6 w) (hB : Below w.heap.size w w') : Fit6 w' := by
  obtain ⟨⟨m, h1⟩, ⟨t', p', h3⟩⟩ := h
  obtain ⟨g', hg'⟩ := rngNamed
  exact ⟨⟨m, cell_keep hB h1⟩, ⟨t', p', Joins.var_stays hg' h3 hB (Nat.le_refl _)⟩⟩
theorem Fit6.beside {w w' : World} {B : Nat} (h : Fit6 w) (hB : Below B w w') (hb : w.heap.size ≤ B) : Fit6 w' := h.below (hB.mono hb)

theorem atoi_c (s : ByteArray) (hs : s.size ≤ 100000) (hd : ∀ c ∈ s.data.toList, isDgt c = true) (hne : s.data.toList ≠ []) (w : World) (h : Fit6 w) :
    Calls Tryd.prog 34 #[.string s] w fun e w' => (∃ v x, e = .returned (.tuple #[.int .i64 v, x]) ∧ ((x = .nilIface ∧ (s.data.toList.foldl dgF 0 ≤ 999999999 → v = ((s.data.toList.foldl dgF 0 : Nat) : Int)) ∧ (999999999 < s.data.toList.foldl dgF 0 → (999999999 : Int) < v)) ∨ (∃ tp p, x = .iface tp p) ∧ 999999999 < s.data.toList.foldl dgF 0)) ∧ Below w.heap.size w w' := by
  rcases atoi_dg _ hd hne with ⟨v, hq, h1, h2⟩ | ⟨hq, h1⟩
  · refine (Tryd.strconv_Atoi_ok s (by omega) v hq w).mono ?_
    rintro e w' ⟨rfl, rfl | ⟨t, rfl⟩⟩
    · exact ⟨⟨v, _, rfl, Or.inl ⟨rfl, fun q => by rw [h1 q], fun q => by have := h2 q; omega⟩⟩, Below.refl _ _⟩
    · exact ⟨⟨v, _, rfl, Or.inl ⟨rfl, fun q => by rw [h1 q], fun q => by have := h2 q; omega⟩⟩, Joins.below_bytesWorld _ _ _ _ (Nat.le_refl _)⟩
  · obtain ⟨tp, p, hv⟩ := h.rng
    refine (Tryd.strconv_Atoi_range_var s (by omega) hq tp p w hv).mono ?_
    rintro e w' ⟨N, rfl, _, _, hB⟩
    exact ⟨⟨_, _, rfl, Or.inr ⟨⟨_, _, rfl⟩, h1⟩⟩, hB⟩

set_option maxRecDepth 100000 in
set_option maxHeartbeats 8000000 in
theorem number_c (S : ByteArray) (a : Int) (hs : S.size ≤ 100000) (w : World) (hft : Fit6 w) :
    Calls Tryd.prog 14 #[.string S, .int .i64 a] w fun e w' => e = .returned (nbAt S a) ∧ Below w.heap.size w w' := by
  obtain ⟨A, hA⟩ : ∃ A, A = plc S.size a := ⟨_, rfl⟩
  have hAl : A ≤ S.size := by rw [hA]; exact plc_le _ _
  have HP := Lib.hid (place_c S a)
  rw [← hA] at HP
  have HBE := Lib.hid (behind_c 33 #[] isDgt S A hAl hs w (enters_of Tryd.func33 (by kernel_rfl) rfl) (fun c W _ => (digit_c c W).mono (by rintro e w' ⟨rfl, rfl⟩; exact ⟨rfl, Below.refl _ _⟩)))
  obtain ⟨m, hm⟩ : ∃ m, m = S.data.toList.drop A := ⟨_, rfl⟩
  have hll : S.data.toList.length = S.size := by simp
  have hgoal : nbAt S a = nbV A m := by unfold nbAt; rw [← hA, hm]
  rw [hgoal]
  rw [← hm] at HBE
  have htw : m.take (m.takeWhile isDgt).length = dgP m := take_tw _ _
  have hdl : (m.takeWhile isDgt).length ≤ m.length := tw_le _ _
  have hml : m.length = S.size - A := by rw [hm, List.length_drop, hll]
  obtain ⟨V, hV⟩ : ∃ V, V = nbV A m := ⟨_, rfl⟩
  rw [← hV]
  unfold nbV at hV
  obtain ⟨n, hn⟩ : ∃ n, n = (m.takeWhile isDgt).length := ⟨_, rfl⟩
  have hn2 : (dgP m).length = n := hn.symm
  rw [← hn] at HBE htw hdl
  obtain ⟨E, hE⟩ : ∃ E : Nat, E = A + n := ⟨_, rfl⟩
  rw [hn2, ← hE] at hV
  rw [← hE] at HBE
  have HV := Lib.hid hV
  have HFT := Lib.hid hft
  clear hgoal hA hV hn hft
  by_cases h0 : dgP m = []
  · have hn0 : n = 0 := by rw [← hn2, h0]; rfl
    have hEA : (E : Int) = (A : Int) := by omega
    have q1 : ((E : Int) == (A : Int)) = true := by rw [beq_iff_eq]; exact hEA
    have hv := HV.out
    rw [if_pos h0] at hv
    have HVV := Lib.hid hv
    clear hv h0 hn0 hEA hm htw hn2 hE
    go_enter Tryd.func14, Tryd.ntmps14
    go_wp2_with fail
    refine (HP.out _).mono ?_
    rintro e w1 ⟨rfl, rfl⟩
    go_wp2_with fail
    refine HBE.out.mono ?_
    rintro e w2 ⟨rfl, hB2⟩
    go_wp2
    go_ret3
    exact ⟨by rw [HVV.out]; rfl, hB2⟩
  · have hn0 : 0 < n := by rw [← hn2]; exact List.length_pos_iff.2 h0
    have q1 : ((E : Int) == (A : Int)) = false := by rw [beq_eq_false_iff_ne]; omega
    have q2 : ¬ (E : Int) = (A : Int) := by omega
    obtain ⟨D, hD⟩ : ∃ D : ByteArray, D = ⟨(dgP m).toArray⟩ := ⟨_, rfl⟩
    have hDs : D.size = n := by rw [hD, ba_size, hn2]
    have hsl := slice_mid S A E (by omega) (by omega) D (by rw [hD, ← hm, show E - A = n by omega, htw])
    have hDd : D.data.toList = dgP m := by rw [hD]
    have hAT := fun w h => atoi_c D (by omega) (by rw [hDd]; exact dgP_all m) (by rw [hDd]; exact h0) w h
    rw [hDd, ← nmP_eq] at hAT
    have HAT := Lib.hid hAT
    have hv := HV.out
    rw [if_neg h0] at hv
    have HVV := Lib.hid hv
    clear hv h0 hn0 hm htw hn2 hAT hD hDs hDd hE
    go_enter Tryd.func14, Tryd.ntmps14
    go_wp2_with fail
    refine (HP.out _).mono ?_
    rintro e w1 ⟨rfl, rfl⟩
    go_wp2_with fail
    refine HBE.out.mono ?_
    rintro e w2 ⟨rfl, hB2⟩
    have hf2 := HFT.out.below hB2
    go_wp2_with fail
    refine (HAT.out _ hf2).mono ?_
    rintro e w3 ⟨⟨v, x, rfl, ⟨rfl, hv1, hv2⟩ | ⟨⟨tp, p, rfl⟩, hv⟩⟩, hB3⟩
    · have hBB := hB2.trans (hB3.mono hB2.size)
      by_cases hbig : 999999999 < nmP m
      · have hx := hv2 hbig
        have hv := HVV.out
        rw [if_pos hbig] at hv
        have HX := Lib.hid hv
        clear hv hv1 hv2 hbig
        go_wp2
        go_ret3
        exact ⟨by rw [HX.out]; rfl, hBB⟩
      · have hx := hv1 (by omega)
        have hx2 : ¬ (999999999 : Int) < v := by rw [hx]; omega
        have hv := HVV.out
        rw [if_neg hbig, ← hx] at hv
        have HX := Lib.hid hv
        clear hv hv1 hv2 hbig hx
        go_wp2
        go_ret3
        exact ⟨by rw [HX.out]; rfl, hBB⟩
    · have hBB := hB2.trans (hB3.mono hB2.size)
      have hv2 := HVV.out
      rw [if_pos hv] at hv2
      have HX := Lib.hid hv2
      clear hv hv2
      go_wp2
      go_ret3
      exact ⟨by rw [HX.out]; rfl, hBB⟩

theorem ixb_c (s : ByteArray) (c : Int) (w : World) :
    Calls Tryd.prog 36 #[.string s, .int .u8 c] w fun e w' => e = .returned (.int .i64 (Lib.indexByte s.data.toList c.toNat.toUInt8)) ∧ w' = w := by
  have H := Lib.hid (fun w => Tryd.stringslite_IndexByte s c w)
  go_enter Tryd.func36, Tryd.ntmps36
  go_wp2_with fail
  refine (H.out _).mono ?_
  rintro e w' ⟨rfl, rfl⟩
  go_wp2
  go_ret
  exact ⟨rfl, rfl⟩
theorem indexB_neg (c : UInt8) : ∀ l : List UInt8, (Lib.indexByte l c < 0 ↔ hasB l c = false) ∧ -1 ≤ Lib.indexByte l c
  | [] => by simp [Lib.indexByte, hasB]
  | x :: r => by
    obtain ⟨h1, h2⟩ := indexB_neg c r
    rw [has_cons]
    unfold Lib.indexByte
    by_cases hx : x = c
    · subst hx; simp
    · have e1 : (x == c) = false := by simpa using hx
      have e2 : (c == x) = false := by simpa using fun h : c = x => hx h.symm
      rw [e1, e2]
      simp only [Bool.false_or, Bool.false_eq_true, if_false]
      by_cases h : 0 ≤ Lib.indexByte r c
      · rw [if_neg (by rw [beq_iff_eq]; omega)]
        refine ⟨?_, by omega⟩
        rw [← h1]
        omega
      · rw [if_pos (by rw [beq_iff_eq]; omega)]
        refine ⟨?_, by omega⟩
        have : hasB r c = false := h1.1 (by omega)
        simp [this]
set_option maxRecDepth 100000 in
set_option maxHeartbeats 8000000 in
theorem goes_on (b : Nat) (c : UInt8) (E : ByteArray) (w : World) (hc : w.cell? ⟨b, 0, none⟩ = some (.string E)) :
    Calls Tryd.prog 35 #[.int .u8 c.toNat, .pointer (some ⟨b, 0, none⟩)] w fun e w' => e = .returned (.bool (gon E.data.toList c)) ∧ Below w.heap.size w w' := by
  have hg : gon E.data.toList c = (!decide (c = UInt8.ofNat 10) && !hasB E.data.toList c) := by
    unfold gon hasB
    rw [show (c == 10) = decide (c = UInt8.ofNat 10) from rfl]
    simp
  by_cases h1 : c = UInt8.ofNat 10
  · have q1 : ((c.toNat : Int) != 10) = false := (u8ne (n := 10) (by omega)).trans (by rw [decide_eq_true h1]; rfl)
    have q2 : (c.toNat : Int) = 10 := by simpa using q1
    rw [decide_eq_true h1] at hg
    have HG := Lib.hid hg
    clear hg h1
    go_enter Tryd.func35, Tryd.ntmps35
    go_wp2
    go_ret
    exact ⟨by rw [HG.out]; rfl, Below.refl _ _⟩
  · have q1 : ((c.toNat : Int) != 10) = true := (u8ne (n := 10) (by omega)).trans (by rw [decide_eq_false h1]; rfl)
    have q2 : ¬ (c.toNat : Int) = 10 := by simpa using q1
    rw [decide_eq_false h1] at hg
    obtain ⟨z, hz⟩ : ∃ z, z = Lib.indexByte E.data.toList c := ⟨_, rfl⟩
    have hix : ∀ w, Calls Tryd.prog 36 #[.string E, .int .u8 (c.toNat : Int)] w fun e w' => e = .returned (.int .i64 z) ∧ w' = w := fun w => by
      refine (ixb_c E (c.toNat : Int) w).mono ?_
      rintro e w' ⟨rfl, rfl⟩
      refine ⟨?_, rfl⟩
      rw [hz, show ((c.toNat : Int)).toNat.toUInt8 = c by simp]
    have hzz := indexB_neg c E.data.toList
    rw [← hz] at hzz
    have HIX := Lib.hid hix
    cases hh : hasB E.data.toList c
    · have hz0 : z < 0 := hzz.1.2 hh
      have hz1 : decide (z < 0) = true := decide_eq_true hz0
      have hz2 : (z < 0) = True := eq_true hz0
      rw [hh] at hg
      have HG := Lib.hid hg
      clear hg h1 hz hzz hh hix
      go_enter Tryd.func35, Tryd.ntmps35
      go_wp2_with fail
      refine (HIX.out _).mono ?_
      rintro e w1 ⟨rfl, rfl⟩
      go_wp2
      go_ret
      exact ⟨by rw [HG.out]; rfl, Below.refl _ _⟩
    · have hz0 : ¬ z < 0 := fun h => by have := hzz.1.1 h; rw [hh] at this; cases this
      have hz1 : decide (z < 0) = false := decide_eq_false hz0
      have hz2 : (z < 0) = False := eq_false hz0
      rw [hh] at hg
      have HG := Lib.hid hg
      clear hg h1 hz hzz hh hix
      go_enter Tryd.func35, Tryd.ntmps35
      go_wp2_with fail
      refine (HIX.out _).mono ?_
      rintro e w1 ⟨rfl, rfl⟩
      go_wp2
      go_ret
      exact ⟨by rw [HG.out]; rfl, Below.refl _ _⟩

set_option maxRecDepth 100000 in
set_option maxHeartbeats 8000000 in
theorem word_c (S E : ByteArray) (a : Int) (hs : S.size ≤ 100000) (w : World) :
    Calls Tryd.prog 16 #[.string S, .int .i64 a, .string E] w fun e w' => e = .returned (wdAt S a E) ∧ Below w.heap.size w w' := by
  obtain ⟨A, hA⟩ : ∃ A, A = plc S.size a := ⟨_, rfl⟩
  have hAl : A ≤ S.size := by rw [hA]; exact plc_le _ _
  have HP := Lib.hid (place_c S a)
  rw [← hA] at HP
  have hW0 : Below w.heap.size w (w.alloc (.cells #[.string E] 9)) := (Below.refl _ w).alloc (Nat.le_refl _) _
  have hc0 : (w.alloc (.cells #[.string E] 9)).cell? ⟨w.heap.size, 0, none⟩ = some (.string E) := by rw [cell_of _ _ _ _ (heap_new _ _)]; rfl
  obtain ⟨el, hel⟩ : ∃ el, el = E.data.toList := ⟨_, rfl⟩
  have HBE := Lib.hid (behind_c 35 #[.pointer (some ⟨w.heap.size, 0, none⟩)] (gon E.data.toList) S A hAl hs (w.alloc (.cells #[.string E] 9)) (enters_of Tryd.func35 (by kernel_rfl) rfl) (fun c W hB => goes_on w.heap.size c E W (cell_keep hB hc0)))
  obtain ⟨m, hm⟩ : ∃ m, m = S.data.toList.drop A := ⟨_, rfl⟩
  have hll : S.data.toList.length = S.size := by simp
  have hgoal : wdAt S a E = wdV A el m := by unfold wdAt; rw [← hA, hm, hel]
  rw [hgoal]
  rw [← hel, ← hm] at HBE
  have htw : wnP el m = (m.takeWhile (gon el)).length := rfl
  have hdl : (m.takeWhile (gon el)).length ≤ m.length := tw_le _ _
  have hml : m.length = S.size - A := by rw [hm, List.length_drop, hll]
  rw [← htw] at HBE hdl
  obtain ⟨V, hV⟩ : ∃ V, V = wdV A el m := ⟨_, rfl⟩
  rw [← hV]
  unfold wdV at hV
  rw [wdP_eq] at hV
  obtain ⟨n, hn⟩ : ∃ n, n = wnP el m := ⟨_, rfl⟩
  rw [← hn] at hV HBE hdl
  obtain ⟨X, hX⟩ : ∃ X : Nat, X = A + n := ⟨_, rfl⟩
  rw [← hX] at hV HBE
  obtain ⟨D, hD⟩ : ∃ D : ByteArray, D = ⟨(m.take n).toArray⟩ := ⟨_, rfl⟩
  have hDs : D.size ≤ S.size := by rw [hD, ba_size, List.length_take]; omega
  have hsl := slice_mid S A X (by omega) (by omega) D (by rw [hD, ← hm, show X - A = n by omega])
  have HD := Lib.hid (And.intro hD hDs)
  have HV := Lib.hid hV
  have HW0 := Lib.hid hW0
  have HBL := Lib.hid blank_c
  clear hgoal hA hV hn hc0 hW0 hm hel htw hD hDs hdl hml hX
  go_enter Tryd.func16, Tryd.ntmps16
  go_wp2_with fail
  refine (HP.out _).mono ?_
  rintro e w1 ⟨rfl, rfl⟩
  go_wp2_with fail
  refine HBE.out.mono ?_
  rintro e w2 ⟨rfl, hB2⟩
  have HBB := Lib.hid (HW0.out.trans (hB2.mono HW0.out.size))
  clear hB2 HBE HP
  go_wp2
  clear hsl
  go_loop [10] (fun i => ∃ (q : List UInt8) (t : ByteArray), i = .string t ∧ t = ⟨q.toArray⟩ ∧ q.length ≤ S.size ∧ trB (m.take n) = trB q) (fun i => match i with | .string t => t.size | _ => 0)
  case atStart => exact ⟨m.take n, D, rfl, HD.out.1, by have := HD.out.2; rw [HD.out.1, ba_size] at this; exact this, rfl⟩
  case round =>
    obtain ⟨q, t, rfl, ht, hql, htr⟩ := hrel
    have hts : t.size = q.length := by rw [ht, ba_size]
    have htd : t.data.toList = q := by rw [ht]
    have htl : t.toList = q := by rw [Lib.toList_data]; exact htd
    have HT := Lib.hid ht
    have HTR := Lib.hid htr
    clear ht htr
    by_cases h0 : q = []
    · have q1 : (t.toList == []) = true := by rw [htl, h0]; rfl
      have q2 : t.toList = [] := by rw [htl, h0]
      have q3 : t.isEmpty = true := by rw [ByteArray.isEmpty]; simp [hts, h0]
      have q4 : (t.toList != []) = false := by rw [q2]; rfl
      have hv : V = .tuple #[.string t, .int .i64 (X : Int)] := by rw [HV.out, HTR.out, h0, HT.out, h0]; rfl
      have HVV := Lib.hid hv
      clear hv h0 hts htd htl
      go_wp2
      go_ret2
      exact ⟨by rw [HVV.out]; rfl, HBB.out⟩
    have q1 : (t.toList == []) = false := by rw [htl, beq_eq_false_iff_ne]; exact h0
    have q2 : ¬ t.toList = [] := by rw [htl]; exact h0
    have hpos : 0 < t.size := by rw [hts]; exact List.length_pos_iff.2 h0
    have q3 : t.isEmpty = false := by rw [ByteArray.isEmpty, beq_eq_false_iff_ne]; omega
    have q4 : (t.toList != []) = true := by rw [bne, q1]; rfl
    obtain ⟨q', x, rfl⟩ : ∃ q' x, q = q' ++ [x] := ⟨q.dropLast, q.getLast h0, (List.dropLast_concat_getLast h0).symm⟩
    have hsx := ba_get? t _ htd (t.size - 1) x (by omega) (by rw [hts]; simp)
    have hix : ∀ W, (Instr.index 9 (.string t) (.int .i64 ((t.size : Int) - 1))).run Tryd.prog W = .ok (.int .u8 (x.toNat : Int)) W := fun W => by
      rw [run_index_string (P := Tryd.prog) W 9 _ .i64 ((t.size : Int) - 1) Tryd.underlying9, dif_pos ⟨by omega, by omega⟩]
      have e : ((t.size : Int) - 1).toNat = t.size - 1 := by omega
      congr 3
      simp only [e]
      rw [hsx]
    have htsz : t.size = q'.length + 1 := by rw [hts]; simp
    have HX := HBL.out x
    cases hb : isBl x
    · rw [hb] at HX
      have HXX := Lib.hid HX
      have hv : V = .tuple #[.string t, .int .i64 (X : Int)] := by rw [HV.out, HTR.out, trB_snoc, hb, HT.out]; rfl
      have HVV := Lib.hid hv
      have htb : t.size ≤ 100000 := by simp at hql; omega
      clear hv h0 hts htd htl hsx HX hb hql htsz
      go_wp2_with fail
      refine (HXX.out _).mono ?_
      rintro e w3 ⟨rfl, rfl⟩
      go_wp2
      go_ret2
      exact ⟨by rw [HVV.out]; rfl, HBB.out⟩
    · rw [hb] at HX
      have HXX := Lib.hid HX
      have hv : trB (m.take n) = trB q' := by rw [HTR.out, trB_snoc, hb]; rfl
      have HVV := Lib.hid hv
      obtain ⟨T, hT⟩ : ∃ T : ByteArray, T = ⟨q'.toArray⟩ := ⟨_, rfl⟩
      have hTs : T.size = q'.length := by rw [hT, ba_size]
      have hsl := slice_to t (t.size - 1) (by omega) T (by rw [hT, htd, htsz]; simp)
      have hsl2 : ∀ W, (Instr.slice 9 (.string t) none (some (.int .i64 ((t.size : Int) - 1))) none).run Tryd.prog W = .ok (.string T) W := fun W => by
        have := hsl W
        rw [show ((t.size - 1 : Nat) : Int) = (t.size : Int) - 1 by omega] at this
        exact this
      have htb : t.size ≤ 100000 := by simp at hql; omega
      have HTT := Lib.hid (And.intro hT (by simp at hql; omega : q'.length ≤ S.size))
      have HSZ := Lib.hid (show T.size < t.size by omega)
      clear hv h0 hts htd htl hsx HX hb hql hT hTs hsl htsz
      go_wp2_with fail
      refine (HXX.out _).mono ?_
      rintro e w3 ⟨rfl, rfl⟩
      go_wp2
      go_round
      case rel => exact ⟨q', T, rfl, HTT.out.1, HTT.out.2, HVV.out⟩
      case measure => exact HSZ.out

end Go.Proofs.YtagjoebggghknaaDoor
