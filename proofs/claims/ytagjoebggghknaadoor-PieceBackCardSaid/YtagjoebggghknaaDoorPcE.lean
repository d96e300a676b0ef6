/- piece: Take, Text, Blanks. -/
import Derived.Test.YtagjoebggghknaaDoorPcD
namespace Go.Proofs.YtagjoebggghknaaDoor
open Go.RowKit
set_option linter.unusedVariables false
set_option linter.unusedSimpArgs false

/-- What Take and Text answer, begun at a. -/
def tkV (a : Nat) : Option (List UInt8 × Nat) → Value
  | some (t, k) => .tuple #[.string ⟨t.toArray⟩, .int .i64 ((a + k : Nat) : Int), .int .i64 0]
  | none => .tuple #[.string ⟨#[]⟩, .int .i64 (a : Int), .int .i64 120]
def tkAt (S : ByteArray) (a : Int) (d : UInt8) : Value := tkV (plc S.size a) (tkD d (S.data.toList.drop (plc S.size a)))
def txV (a : Nat) : Option (List UInt8 × Nat) → Value
  | some (t, k) => .tuple #[.string ⟨(t ++ [10]).toArray⟩, .int .i64 ((a + k : Nat) : Int), .int .i64 0]
  | none => .tuple #[.string ⟨#[]⟩, .int .i64 (a : Int), .int .i64 120]
def txAt (S : ByteArray) (a : Int) : Value := txV (plc S.size a) (txP (S.data.toList.drop (plc S.size a)))

theorem tkD_rd (d : UInt8) (l : List UInt8) (A : Nat) : tkD d (l.drop A) = if mayD d = true ∧ l[A + (rdP (endD d) (pairD d) (l.drop A)).2]? = some d then some ((rdP (endD d) (pairD d) (l.drop A)).1, (rdP (endD d) (pairD d) (l.drop A)).2 + 1) else none := by
  unfold tkD
  by_cases hd : d = 92 ∨ d = 10
  · rw [if_pos hd, if_neg (by rintro ⟨h, _⟩; rcases hd with rfl | rfl <;> exact absurd h (by decide))]
  · have h1 : d ≠ 92 := fun h => hd (.inl h)
    have h2 : d ≠ 10 := fun h => hd (.inr h)
    have hm : mayD d = true := by unfold mayD; simp [h1, h2]
    rw [if_neg hd, rd_tk d h1 h2 _ _ (Nat.le_refl _), List.getElem?_drop]
    simp only [hm, true_and]
theorem txP_rd (l : List UInt8) (A : Nat) (hA : A ≤ l.length) : txP (l.drop A) = if A + (rdP endT pairT (l.drop A)).2 = l.length then some ((rdP endT pairT (l.drop A)).1, (rdP endT pairT (l.drop A)).2) else if l[A + (rdP endT pairT (l.drop A)).2]? = some 10 then some ((rdP endT pairT (l.drop A)).1, (rdP endT pairT (l.drop A)).2 + 1) else none := by
  rw [rd_tx _ _ (Nat.le_refl _), List.getElem?_drop, List.length_drop]
  by_cases h : A + (rdP endT pairT (l.drop A)).2 = l.length
  · rw [if_pos h, if_pos (by omega)]
  · have h2 : ¬ (rdP endT pairT (l.drop A)).2 = l.length - A := by omega
    rw [if_neg h, if_neg h2]

set_option maxRecDepth 100000 in
set_option maxHeartbeats 8000000 in
theorem take_c (S : ByteArray) (a : Int) (d : UInt8) (hs : S.size ≤ 100000) (w : World) :
    Calls Tryd.prog 10 #[.string S, .int .i64 a, .int .u8 d.toNat] w fun e w' => e = .returned (tkAt S a d) ∧ Below w.heap.size w w' := by
  obtain ⟨A, hA⟩ : ∃ A, A = plc S.size a := ⟨_, rfl⟩
  have hAl : A ≤ S.size := by rw [hA]; exact plc_le _ _
  have hll : S.data.toList.length = S.size := by simp
  have hres := tkD_rd d S.data.toList A
  have hrl := rd_le (endD d) (pairD d) (pair_len d) _ (S.data.toList.drop A) (Nat.le_refl _)
  rw [List.length_drop, hll] at hrl
  have HP := Lib.hid (place_c S a)
  rw [← hA] at HP
  have hW0 : Below w.heap.size w (w.alloc (.cells #[.int .u8 d.toNat] 5)) := (Below.refl _ w).alloc (Nat.le_refl _) _
  have hc0 : (w.alloc (.cells #[.int .u8 d.toNat] 5)).cell? ⟨w.heap.size, 0, none⟩ = some (.int .u8 d.toNat) := by rw [cell_of _ _ _ _ (heap_new _ _)]; rfl
  have HRD := Lib.hid (read_c 25 26 #[.pointer (some ⟨w.heap.size, 0, none⟩)] #[.pointer (some ⟨w.heap.size, 0, none⟩)] (endD d) (pairD d) S A hAl hs (w.alloc (.cells #[.int .u8 d.toNat] 5))
    (enters_of Tryd.func25 (by kernel_rfl) rfl) (enters_of Tryd.func26 (by kernel_rfl) rfl)
    (fun c W hB => end_d w.heap.size d c W (cell_keep hB hc0)) (fun c W hB => pair_d w.heap.size d c W (cell_keep hB hc0)) (pair_len d))
  have hgoal : tkAt S a d = tkV A (tkD d (S.data.toList.drop A)) := by unfold tkAt; rw [← hA]
  rw [hgoal, hres]
  obtain ⟨R, hR⟩ : ∃ R, R = rdP (endD d) (pairD d) (S.data.toList.drop A) := ⟨_, rfl⟩
  rw [← hR] at HRD hrl ⊢
  obtain ⟨T, hT⟩ : ∃ T : ByteArray, T = ⟨R.1.toArray⟩ := ⟨_, rfl⟩
  rw [← hT] at HRD
  obtain ⟨E, hE⟩ : ∃ E : Nat, E = A + R.2 := ⟨_, rfl⟩
  rw [← hE] at HRD ⊢
  have hEl : E ≤ S.size := by omega
  obtain ⟨V, hV⟩ : ∃ V, V = tkV A (if mayD d = true ∧ S.data.toList[E]? = some d then some (R.1, R.2 + 1) else none) := ⟨_, rfl⟩
  rw [← hV]
  have HV := Lib.hid hV
  clear hV
  have HT := Lib.hid hT
  have HE := Lib.hid hE
  have HW0 := Lib.hid (And.intro hW0 hc0)
  have HM := Lib.hid (mayend_c d)
  clear hA hAl hres hrl hgoal hR hT hE hW0 hc0
  go_enter Tryd.func10, Tryd.ntmps10
  go_wp2_with fail
  refine (HP.out _).mono ?_
  rintro e w1 ⟨rfl, rfl⟩
  go_wp2_with fail
  refine HRD.out.mono ?_
  rintro e w2 ⟨rfl, hB2⟩
  have hd2 := cell_keep hB2 HW0.out.2
  have hBw : Below w.heap.size w w2 := HW0.out.1.trans (hB2.mono HW0.out.1.size)
  cases hm : mayD d
  · have HM2 := HM.out
    rw [hm] at HM2
    have HM3 := Lib.hid HM2
    have hv := HV.out
    rw [hm, if_neg (by simp)] at hv
    have HV2 := Lib.hid hv
    clear HM2 HM HRD hv hm
    go_wp2_with fail
    go_quiet (with_reducible exact Calls.quiet_of_same (HM3.out _))
    go_wp2
    go_ret3
    exact ⟨by rw [HV2.out]; rfl, below_drewN hBw _⟩
  · have HMM := Lib.hid hm
    have HM2 := HM.out
    rw [hm] at HM2
    have HM3 := Lib.hid HM2
    clear HM2 HM HRD hm
    by_cases hlast : E = S.size
    · have q4 : ((E : Int) == S.size) = true := by rw [beq_iff_eq]; omega
      have hn : S.data.toList[E]? = none := List.getElem?_eq_none (by omega)
      have hv := HV.out
      rw [hn, if_neg (by simp)] at hv
      have HV2 := Lib.hid hv
      clear hn hll hlast hv
      go_wp2_with fail
      go_quiet (with_reducible exact Calls.quiet_of_same (HM3.out _))
      go_wp2
      go_ret3
      exact ⟨by rw [HV2.out]; rfl, below_drewN hBw _⟩
    · have q4 : ((E : Int) == S.size) = false := by rw [beq_eq_false_iff_ne]; omega
      have hlt : E < S.size := by omega
      obtain ⟨x, hx⟩ : ∃ x, S.data.toList[E]? = some x := ⟨S.data.toList[E], List.getElem?_eq_getElem (by omega)⟩
      have hsx := ba_get? S _ rfl E x hlt hx
      have HX := Lib.hid hx
      have q6 := u8dn x d
      by_cases hxd : x = d
      · rw [decide_eq_true hxd] at q6
        have q7 : ((S[E].toNat : Int) != (d.toNat : Int)) = false := by rw [hsx]; exact q6
        have HXD := Lib.hid hxd
        clear hx hll hlast hxd hsx q6
        go_wp2_with fail
        go_quiet (with_reducible exact Calls.quiet_of_same (HM3.out _))
        go_wp2
        go_ret3
        refine ⟨?_, below_drewN hBw _⟩
        rw [HV.out, HX.out, HXD.out, if_pos ⟨HMM.out, rfl⟩, HT.out]
        simp only [tkV]
        have := HE.out
        rw [show A + (R.2 + 1) = E + 1 by omega]
        rfl
      · rw [decide_eq_false hxd] at q6
        have q7 : ((S[E].toNat : Int) != (d.toNat : Int)) = true := by rw [hsx]; exact q6
        have HXD := Lib.hid hxd
        clear hx hll hlast hxd hsx q6
        go_wp2_with fail
        go_quiet (with_reducible exact Calls.quiet_of_same (HM3.out _))
        go_wp2
        go_ret3
        refine ⟨?_, below_drewN hBw _⟩
        rw [HV.out, HX.out, if_neg (by rintro ⟨_, h⟩; exact HXD.out (Option.some.inj h))]
        rfl

set_option maxRecDepth 100000 in
set_option maxHeartbeats 8000000 in
theorem text_c (S : ByteArray) (a : Int) (hs : S.size ≤ 100000) (w : World) :
    Calls Tryd.prog 20 #[.string S, .int .i64 a] w fun e w' => e = .returned (txAt S a) ∧ Below w.heap.size w w' := by
  obtain ⟨A, hA⟩ : ∃ A, A = plc S.size a := ⟨_, rfl⟩
  have hAl : A ≤ S.size := by rw [hA]; exact plc_le _ _
  have hll : S.data.toList.length = S.size := by simp
  have hres := txP_rd S.data.toList A (by omega)
  have hrl := rd_le endT pairT (fun x => by simp [pairT]) _ (S.data.toList.drop A) (Nat.le_refl _)
  rw [List.length_drop, hll] at hrl
  have HP := Lib.hid (place_c S a)
  rw [← hA] at HP
  have HRD := Lib.hid (read_c 40 41 #[] #[] endT pairT S A hAl hs w
    (enters_of Tryd.func40 (by kernel_rfl) rfl) (enters_of Tryd.func41 (by kernel_rfl) rfl)
    (fun c W hB => end_t c W) (fun c W hB => pair_t c W) (fun x => by simp [pairT]))
  have hgoal : txAt S a = txV A (txP (S.data.toList.drop A)) := by unfold txAt; rw [← hA]
  rw [hgoal, hres]
  obtain ⟨R, hR⟩ : ∃ R, R = rdP endT pairT (S.data.toList.drop A) := ⟨_, rfl⟩
  rw [← hR] at HRD hrl ⊢
  obtain ⟨T, hT⟩ : ∃ T : ByteArray, T = ⟨R.1.toArray⟩ := ⟨_, rfl⟩
  rw [← hT] at HRD
  obtain ⟨E, hE⟩ : ∃ E : Nat, E = A + R.2 := ⟨_, rfl⟩
  rw [← hE] at HRD ⊢
  have hEl : E ≤ S.size := by omega
  have hTs : T.size = R.1.length := by rw [hT, ba_size]
  have hb1 : (9223372036854775807 < T.size + 1) = False := by simp; omega
  have hb2 : (9223372036854775807 < (T.size : Int) + 1) = False := by simp; omega
  obtain ⟨V, hV⟩ : ∃ V, V = txV A (if E = S.data.toList.length then some (R.1, R.2) else if S.data.toList[E]? = some 10 then some (R.1, R.2 + 1) else none) := ⟨_, rfl⟩
  rw [← hV]
  have HV := Lib.hid hV
  clear hV
  have HT := Lib.hid hT
  have HE := Lib.hid hE
  have HLL := Lib.hid hll
  clear hA hAl hres hrl hgoal hR hT hE hTs hll
  go_enter Tryd.func20, Tryd.ntmps20
  go_wp2_with fail
  refine (HP.out _).mono ?_
  rintro e w1 ⟨rfl, rfl⟩
  go_wp2_with fail
  refine HRD.out.mono ?_
  rintro e w2 ⟨rfl, hB2⟩
  by_cases hlast : E = S.size
  · have q4 : ((E : Int) == S.size) = true := by rw [beq_iff_eq]; omega
    have HL := Lib.hid hlast
    clear hlast
    go_wp2
    go_ret3
    refine ⟨?_, hB2⟩
    rw [HV.out, if_pos (by rw [HLL.out]; exact HL.out)]
    simp only [txV]
    rw [← HE.out, HT.out]
    exact congrArg (fun X => Ending.returned (.tuple #[.string X, .int .i64 (E : Int), .int .i64 0])) (ba_app R.1 [10])
  · have q4 : ((E : Int) == S.size) = false := by rw [beq_eq_false_iff_ne]; omega
    have hlt : E < S.size := by omega
    obtain ⟨x, hx⟩ : ∃ x, S.data.toList[E]? = some x := ⟨S.data.toList[E], List.getElem?_eq_getElem (by have := HLL.out; omega)⟩
    have hsx := ba_get? S _ rfl E x hlt hx
    have HX := Lib.hid hx
    have HL := Lib.hid hlast
    have q6 := u8eq (c := x) (n := 10) (by omega)
    by_cases hxd : x = 10
    · have q7 : ((S[E].toNat : Int) == 10) = true := by rw [hsx]; exact q6.trans (by simpa using hxd)
      have HXD := Lib.hid hxd
      clear hx hlast hxd hsx q6
      go_wp2
      go_ret3
      refine ⟨?_, hB2⟩
      rw [HV.out, if_neg (by rw [HLL.out]; exact HL.out), HX.out, HXD.out, if_pos rfl, HT.out]
      simp only [txV]
      have := HE.out
      rw [show A + (R.2 + 1) = E + 1 by omega]
      exact congrArg (fun X => Ending.returned (.tuple #[.string X, .int .i64 ((E : Int) + 1), .int .i64 0])) (ba_app R.1 [10])
    · have q7 : ((S[E].toNat : Int) == 10) = false := by rw [hsx]; exact q6.trans (by simpa using hxd)
      have HXD := Lib.hid hxd
      clear hx hlast hxd hsx q6
      go_wp2
      go_ret3
      refine ⟨?_, hB2⟩
      rw [HV.out, if_neg (by rw [HLL.out]; exact HL.out), HX.out, if_neg (fun h => HXD.out (Option.some.inj h))]
      rfl

set_option maxRecDepth 100000 in
set_option maxHeartbeats 8000000 in
theorem blanks_c (S : ByteArray) (a : Int) (hs : S.size ≤ 100000) (w : World) :
    Calls Tryd.prog 18 #[.string S, .int .i64 a] w fun e w' => e = .returned (.int .i64 ((plc S.size a + blP (S.data.toList.drop (plc S.size a)) : Nat) : Int)) ∧ Below w.heap.size w w' := by
  obtain ⟨A, hA⟩ : ∃ A, A = plc S.size a := ⟨_, rfl⟩
  have hAl : A ≤ S.size := by rw [hA]; exact plc_le _ _
  have HP := Lib.hid (place_c S a)
  rw [← hA] at HP ⊢
  have HB := Lib.hid (behind_c 37 #[] isBl S A hAl hs w (enters_of Tryd.func37 (by kernel_rfl) rfl) (fun c W _ => (blank_c c W).mono (by rintro e w' ⟨rfl, rfl⟩; exact ⟨rfl, Below.refl _ _⟩)))
  clear hA
  go_enter Tryd.func18, Tryd.ntmps18
  go_wp2_with fail
  refine (HP.out _).mono ?_
  rintro e w1 ⟨rfl, rfl⟩
  go_wp2_with fail
  refine HB.out.mono ?_
  rintro e w2 ⟨rfl, hB2⟩
  go_wp2
  go_ret
  exact ⟨rfl, hB2⟩

end Go.Proofs.YtagjoebggghknaaDoor
