/- The reference's read. -/
import Derived.Test.YtaamhjjdhebjfaaGreatDoorAdZc
namespace Go.Proofs.YtaamhjjdhebjfaaGreatDoor
open Go.RowKit Go.Lib
set_option linter.unusedVariables false
set_option linter.unusedSimpArgs false

theorem sl_take (S : ByteArray) (k : Nat) (hk : k ≤ S.size) (w : World) : (Instr.slice 9 (.string S) none (some (.int .i64 (k : Int))) none).run Tryz.prog w = .ok (.string ⟨(S.data.toList.take k).toArray⟩) w := by
  rw [run_slice_string_h w 9 S Tryz.underlying9 .i64 (k : Int) (by omega) (by omega), ext_cut]
  simp
theorem sl_drop (S : ByteArray) (k : Nat) (hk : k + 1 ≤ S.size) (w : World) : (Instr.slice 9 (.string S) (some (.int .i64 ((k : Int) + 1))) none none).run Tryz.prog w = .ok (.string ⟨(S.data.toList.drop (k + 1)).toArray⟩) w := by
  rw [run_slice_string_l w 9 S Tryz.underlying9 .i64 ((k : Int) + 1) (by omega) (by omega), ext_cut]
  rw [show ((k : Int) + 1).toNat = k + 1 by omega, List.take_of_length_le (by rw [List.length_drop, size_dl]; omega)]
theorem sl_mid (S : ByteArray) (t : Int) (h1 : 1 ≤ S.size) (ht : t = if (S.size : Int) - 1 ≤ 1 then 1 else (S.size : Int) - 1) (w : World) : (Instr.slice 9 (.string S) (some (.int .i64 1)) (some (.int .i64 t)) none).run Tryz.prog w = .ok (.string ⟨((S.data.toList.drop 1).take (S.data.toList.length - 2)).toArray⟩) w := by
  have h2 : 1 ≤ t ∧ t ≤ S.size ∧ t.toNat - 1 = S.size - 2 := by rw [ht]; split <;> omega
  rw [run_slice_string (P := Tryz.prog) (w := w) 9 S .i64 .i64 1 t Tryz.underlying9 (by omega) h2.1 h2.2.1, ext_cut, size_dl]
  rw [show (1 : Int).toNat = 1 from rfl, h2.2.2]
theorem cut_at {l : List UInt8} {k : Nat} (hk : l[k]? = some 126) (hn : ∀ j, j < k → l[j]? ≠ some 126) : cut l [126] = (l.take k, l.drop (k + 1), true) := by
  obtain ⟨h1, h2⟩ := List.getElem?_eq_some_iff.1 hk
  have e : l = l.take k ++ 126 :: l.drop (k + 1) := by
    conv => lhs; rw [← List.take_append_drop k l, List.drop_eq_getElem_cons h1, h2]
  have hni : (126 : UInt8) ∉ l.take k := by
    intro hm
    obtain ⟨j, hj, e2⟩ := List.getElem_of_mem hm
    have hjk : j < k := by rw [List.length_take] at hj; omega
    refine hn j hjk ?_
    rw [List.getElem_take] at e2
    rw [List.getElem?_eq_getElem (by omega), e2]
  conv => lhs; rw [e]
  rw [cut_yes 126 _ _ hni]
theorem cut_end {l : List UInt8} (hn : ∀ j, j < l.length → l[j]? ≠ some 126) : cut l [126] = (l, [], false) := by
  refine cut_no 126 l (fun hm => ?_)
  obtain ⟨j, hj, e2⟩ := List.getElem_of_mem hm
  exact hn j hj (by rw [List.getElem?_eq_getElem hj, e2])

set_option maxRecDepth 100000 in
set_option maxHeartbeats 8000000 in
theorem rread_c (S : ByteArray) (hs : S.size ≤ 1000) (w : World) :
    Calls Tryz.prog 20 #[.string S] w fun e w' => e = .returned (.tuple #[adv (rdB S.data.toList).1, .bool (rdB S.data.toList).2]) ∧ Below w.heap.size w w' := by
  have hsz := size_dl S
  have hB0 := (Below.refl _ w).alloc (Nat.le_refl _) (.cells #[.int .i64 0, .int .i64 0, .int .i64 0] 31)
  have HB := Lib.hid hB0
  have HT := Lib.hid (Three.new w 31 (.int .i64 0) (.int .i64 0) (.int .i64 0))
  have D0 := Lib.hid (fun w => rdigits_c S hs w)
  have hlb : ∀ m : List UInt8, m.length ≤ S.size → ∀ w, Calls Tryz.prog 31 #[.string ⟨m.toArray⟩] w fun e w' => e = .returned (.tuple #[.int .i64 (dgs m).1, .bool (dgs m).2]) ∧ Below w.heap.size w w' := fun m hm w => rdigits_c ⟨m.toArray⟩ (by rw [ba_size]; omega) w
  obtain ⟨V, hV⟩ : ∃ V, V = Value.tuple #[adv (rdB S.data.toList).1, .bool (rdB S.data.toList).2] := ⟨_, rfl⟩
  rw [← hV]
  have e0 : rdB S.data.toList = (if S.data.toList = [] then (⟨0, 0, 0⟩, true) else if S.data.toList = [36] then (⟨2, 0, 0⟩, true) else if (dgs S.data.toList).2 then (⟨1, (dgs S.data.toList).1, 0⟩, true)
    else if S.data.toList.head? = some 43 then (⟨5, (dgs (S.data.toList.drop 1)).1, 0⟩, (dgs (S.data.toList.drop 1)).2) else if S.data.toList.head? = some 126 then (⟨6, (dgs (S.data.toList.drop 1)).1, 0⟩, (dgs (S.data.toList.drop 1)).2)
    else if S.data.toList.head? = some 47 then (⟨4, (dgs ((S.data.toList.drop 1).take (S.data.toList.length - 2))).1, 0⟩, (dgs ((S.data.toList.drop 1).take (S.data.toList.length - 2))).2 && decide (S.data.toList.getLast? = some 47))
    else if (cut S.data.toList [126]).2.2 then (⟨3, (dgs (cut S.data.toList [126]).1).1, (dgs (cut S.data.toList [126]).2.1).1⟩, (dgs (cut S.data.toList [126]).1).2 && (dgs (cut S.data.toList [126]).2.1).2) else (⟨0, 0, 0⟩, false)) := rfl
  rw [e0] at hV
  clear e0 hB0
  by_cases h0 : S.data.toList = []
  · rw [if_pos h0] at hV
    have t0 : S.toList.isEmpty = true := by rw [Lib.toList_data, h0]; rfl
    have HV := Lib.hid (show V = .tuple #[.agg #[.int .i64 0, .int .i64 0, .int .i64 0], .bool true] from hV)
    clear h0 hV hlb D0
    go_enter Tryz.func20, Tryz.ntmps20
    go_wp2
    exact bodyPost_ret (v := .tuple #[.agg #[.int .i64 0, .int .i64 0, .int .i64 0], .bool true]) (by simp [results, Tryz.results20, go_sem]) rfl ⟨by rw [HV.out]; try rfl, (Below.refl _ w).alloc (Nat.le_refl _) _⟩
  rw [if_neg h0] at hV
  have t0 : S.toList.isEmpty = false := by
    rw [Lib.toList_data]; cases hh : S.data.toList with
    | nil => exact absurd hh h0
    | cons a b => rfl
  by_cases h1 : S.data.toList = [36]
  · rw [if_pos h1] at hV
    have t1 : (S.toList == [36]) = true := by rw [Lib.toList_data, h1]; rfl
    have HV := Lib.hid (show V = .tuple #[.agg #[.int .i64 2, .int .i64 0, .int .i64 0], .bool true] from hV)
    clear h0 h1 hV hlb D0
    go_enter Tryz.func20, Tryz.ntmps20
    go_wp2
    exact bodyPost_ret (v := .tuple #[.agg #[.int .i64 2, .int .i64 0, .int .i64 0], .bool true]) (by simp [results, Tryz.results20, go_sem]) rfl ⟨by rw [HV.out]; try rfl, (Below.refl _ w).alloc (Nat.le_refl _) _⟩
  rw [if_neg h1] at hV
  have t1 : (S.toList == [36]) = false := by rw [Lib.toList_data, beq_eq_false_iff_ne]; exact h1
  obtain ⟨c, r, hcr⟩ : ∃ c r, S.data.toList = c :: r := by
    cases hh : S.data.toList with
    | nil => exact absurd hh h0
    | cons a b => exact ⟨a, b, rfl⟩
  have hs1 : 1 ≤ S.size := by rw [← size_dl, hcr]; simp
  have hix := fun w => index0 S c r hcr w
  have hsl := fun w => slice1 S hs1 w
  have hmid := fun t ht w => sl_mid S t hs1 ht w
  have hat := fun k c h w => index_at S k c h w
  have htk := fun k h w => sl_take S k h w
  have hdp := fun k h w => sl_drop S k h w
  have hhd : S.data.toList.head? = some c := by rw [hcr]; rfl
  have hlast : ∃ z, S.data.toList.getLast? = some z ∧ S.data.toList[S.size - 1]? = some z := by
    have : S.data.toList ≠ [] := h0
    refine ⟨S.data.toList.getLast this, List.getLast?_eq_some_getLast this, ?_⟩
    rw [← hsz, ← List.getLast?_eq_getElem?]
    exact List.getLast?_eq_some_getLast this
  rw [hhd] at hV
  generalize S.data.toList = l at hV D0 hsz hsl hmid hat htk hdp hlast h0 h1
  clear h0 h1 hcr hhd
  obtain ⟨⟨n0, b0⟩, hd0⟩ : ∃ x, dgs l = x := ⟨_, rfl⟩
  rw [hd0] at D0 hV
  simp only at D0 hV
  clear hd0
  cases b0
  · rw [if_neg (by simp)] at hV
    have HD1 := Lib.hid (hlb (l.drop 1) (by rw [List.length_drop]; omega))
    obtain ⟨⟨n1, b1⟩, hd1⟩ : ∃ x, dgs (l.drop 1) = x := ⟨_, rfl⟩
    rw [hd1] at HD1 hV
    simp only at HD1 hV
    clear hd1
    generalize (⟨(l.drop 1).toArray⟩ : ByteArray) = L1 at HD1 hsl
    by_cases c43 : c = 43
    · subst c43
      rw [if_pos rfl] at hV
      have HV := Lib.hid (show V = .tuple #[.agg #[.int .i64 5, .int .i64 n1, .int .i64 0], .bool b1] from hV)
      have hix2 : ∀ w, (Instr.index 9 (.string S) (.int .i64 0)).run Tryz.prog w = .ok (.int .u8 43) w := hix
      clear hix hV hmid hat htk hdp hlb hlast
      go_enter Tryz.func20, Tryz.ntmps20
      go_wp2_with fail
      refine (D0.out _).mono ?_
      rintro e w1 ⟨rfl, hB⟩
      have HB1 := Lib.hid (HB.out.trans (hB.mono HB.out.size))
      have HT1 := Lib.hid (HT.out.beside hB)
      clear hB
      go_wp2_with fail
      refine (HD1.out _).mono ?_
      rintro e w2 ⟨rfl, hB⟩
      have HB2 := Lib.hid (HB1.out.trans (hB.mono HB1.out.size))
      have HT2 := Lib.hid (HT1.out.beside hB)
      clear hB
      have HS := Lib.hid (HT2.out.s (.int .i64 5) (.int .i64 n1) (.int .i64 0))
      have HBS := Lib.hid (Below.set3 HB2.out (b := w.heap.size) (Nat.le_refl _) (.int .i64 5) (.int .i64 n1) (.int .i64 0))
      have c0 := HT2.out.c0
      have c1 := HT2.out.c1
      have c2 := HT2.out.c2
      have f0 := HT2.out.fz 0
      have f1 := HT2.out.fz 1
      have f2 := HT2.out.fz 2
      go_wp2
      exact bodyPost_ret (v := .tuple #[.agg #[.int .i64 5, .int .i64 n1, .int .i64 0], .bool b1]) (by simp [results, Tryz.results20, go_sem, HS.out.c0, HS.out.c1, HS.out.c2]) rfl ⟨by rw [HV.out]; try rfl, HBS.out⟩
    · rw [if_neg (fun h => c43 (Option.some.inj h))] at hV
      have t43 : ((c.toNat : Int) == 43) = false := by rw [beq_eq_false_iff_ne]; intro h; exact c43 (UInt8.toNat_inj.1 (by show c.toNat = 43; omega))
      by_cases c126 : c = 126
      · subst c126
        rw [if_pos rfl] at hV
        have HV := Lib.hid (show V = .tuple #[.agg #[.int .i64 6, .int .i64 n1, .int .i64 0], .bool b1] from hV)
        have hix2 : ∀ w, (Instr.index 9 (.string S) (.int .i64 0)).run Tryz.prog w = .ok (.int .u8 126) w := hix
        clear hix hV hmid hat htk hdp t43 hlb hlast
        go_enter Tryz.func20, Tryz.ntmps20
        go_wp2_with fail
        refine (D0.out _).mono ?_
        rintro e w1 ⟨rfl, hB⟩
        have HB1 := Lib.hid (HB.out.trans (hB.mono HB.out.size))
        have HT1 := Lib.hid (HT.out.beside hB)
        clear hB
        go_wp2_with fail
        refine (HD1.out _).mono ?_
        rintro e w2 ⟨rfl, hB⟩
        have HB2 := Lib.hid (HB1.out.trans (hB.mono HB1.out.size))
        have HT2 := Lib.hid (HT1.out.beside hB)
        clear hB
        have HS := Lib.hid (HT2.out.s (.int .i64 6) (.int .i64 n1) (.int .i64 0))
        have HBS := Lib.hid (Below.set3 HB2.out (b := w.heap.size) (Nat.le_refl _) (.int .i64 6) (.int .i64 n1) (.int .i64 0))
        have c0 := HT2.out.c0
        have c1 := HT2.out.c1
        have c2 := HT2.out.c2
        have f0 := HT2.out.fz 0
        have f1 := HT2.out.fz 1
        have f2 := HT2.out.fz 2
        go_wp2
        exact bodyPost_ret (v := .tuple #[.agg #[.int .i64 6, .int .i64 n1, .int .i64 0], .bool b1]) (by simp [results, Tryz.results20, go_sem, HS.out.c0, HS.out.c1, HS.out.c2]) rfl ⟨by rw [HV.out]; try rfl, HBS.out⟩
      · rw [if_neg (fun h => c126 (Option.some.inj h))] at hV
        have t126 : ((c.toNat : Int) == 126) = false := by rw [beq_eq_false_iff_ne]; intro h; exact c126 (UInt8.toNat_inj.1 (by show c.toNat = 126; omega))
        by_cases c47 : c = 47
        · subst c47
          rw [if_pos rfl] at hV
          have hix2 : ∀ w, (Instr.index 9 (.string S) (.int .i64 0)).run Tryz.prog w = .ok (.int .u8 47) w := hix
          have HD2 := Lib.hid (hlb ((l.drop 1).take (l.length - 2)) (by rw [List.length_take, List.length_drop]; omega))
          obtain ⟨⟨n2, b2⟩, hd2⟩ : ∃ x, dgs ((l.drop 1).take (l.length - 2)) = x := ⟨_, rfl⟩
          rw [hd2] at HD2 hV
          simp only at HD2 hV
          obtain ⟨z, hz1, hz2⟩ := hlast
          rw [hz1] at hV
          have hzi := fun w => hat (S.size - 1) z hz2 w
          rw [show ((S.size - 1 : Nat) : Int) = (S.size : Int) - 1 by omega] at hzi
          have hzq : ((z.toNat : Int) == 47) = decide (some z = some (47 : UInt8)) := by
            rw [Bool.eq_iff_iff]; simp only [beq_iff_eq, decide_eq_true_eq, Option.some.injEq]
            constructor
            · intro h; exact UInt8.toNat_inj.1 (by show z.toNat = 47; omega)
            · rintro rfl; rfl
          obtain ⟨q, hq⟩ : ∃ q, decide (some z = some (47 : UInt8)) = q := ⟨_, rfl⟩
          rw [hq] at hV hzq
          have HV := Lib.hid (show V = .tuple #[.agg #[.int .i64 4, .int .i64 n2, .int .i64 0], .bool (b2 && q)] from hV)
          have hm2 := fun t (ht : t = if (S.size : Int) - 1 ≤ 1 then 1 else (S.size : Int) - 1) w => hmid t ht w
          generalize (⟨((l.drop 1).take (l.length - 2)).toArray⟩ : ByteArray) = L2 at HD2 hm2
          obtain ⟨t, ht⟩ : ∃ t : Int, t = if (S.size : Int) - 1 ≤ 1 then 1 else (S.size : Int) - 1 := ⟨_, rfl⟩
          have hm3 := hm2 t ht
          have htm : ∀ (ts : Array TypeId) (ty : TypeId) w, (Builtin.max_ ts ty #[.int .i64 ((S.size : Int) - 1), .int .i64 1]).run Tryz.prog w = .ok (.int .i64 t) w := fun ts ty w => by
            rw [run_max_int2, ht]
            split <;> split <;> first | rfl | (exfalso; omega) | (congr 2; omega)
          clear hm2 ht
          have ws : IntKind.i64.wrap ((S.size : Int) - 1) = (S.size : Int) - 1 := by simp [IntKind.wrap, IntKind.signed, IntKind.bits]; omega
          have hb1 : (0 : Int) ≤ (S.size : Int) - 1 := by omega
          clear hix hV hat htk hdp t43 t126 hq hz1 hz2 hd2 hlb hmid
          go_enter Tryz.func20, Tryz.ntmps20
          go_wp2_with fail
          refine (D0.out _).mono ?_
          rintro e w1 ⟨rfl, hB⟩
          have HB1 := Lib.hid (HB.out.trans (hB.mono HB.out.size))
          have HT1 := Lib.hid (HT.out.beside hB)
          clear hB
          go_wp2_with fail
          refine (HD1.out _).mono ?_
          rintro e w2 ⟨rfl, hB⟩
          have HB2 := Lib.hid (HB1.out.trans (hB.mono HB1.out.size))
          have HT2 := Lib.hid (HT1.out.beside hB)
          clear hB
          go_wp2_with fail
          refine (HD2.out _).mono ?_
          rintro e w3 ⟨rfl, hB⟩
          have HB3 := Lib.hid (HB2.out.trans (hB.mono HB2.out.size))
          have HT3 := Lib.hid (HT2.out.beside hB)
          clear hB
          cases b2
          · have HS := Lib.hid (HT3.out.s (.int .i64 4) (.int .i64 n2) (.int .i64 0))
            have HBS := Lib.hid (Below.set3 HB3.out (b := w.heap.size) (Nat.le_refl _) (.int .i64 4) (.int .i64 n2) (.int .i64 0))
            have c0 := HT3.out.c0
            have c1 := HT3.out.c1
            have c2 := HT3.out.c2
            have f0 := HT3.out.fz 0
            have f1 := HT3.out.fz 1
            have f2 := HT3.out.fz 2
            go_wp2_with fail
            go_region
            all_goals go_wp2
            all_goals exact bodyPost_ret (v := .tuple #[.agg #[.int .i64 4, .int .i64 n2, .int .i64 0], .bool false]) (by simp [results, Tryz.results20, go_sem, HS.out.c0, HS.out.c1, HS.out.c2]) rfl ⟨by rw [HV.out]; try rfl, HBS.out.drew⟩
          · have HS := Lib.hid (HT3.out.s (.int .i64 4) (.int .i64 n2) (.int .i64 0))
            have HBS := Lib.hid (Below.set3 HB3.out (b := w.heap.size) (Nat.le_refl _) (.int .i64 4) (.int .i64 n2) (.int .i64 0))
            have c0 := HT3.out.c0
            have c1 := HT3.out.c1
            have c2 := HT3.out.c2
            have f0 := HT3.out.fz 0
            have f1 := HT3.out.fz 1
            have f2 := HT3.out.fz 2
            go_wp2_with fail
            go_region
            all_goals go_wp2
            all_goals exact bodyPost_ret (v := .tuple #[.agg #[.int .i64 4, .int .i64 n2, .int .i64 0], .bool q]) (by simp [results, Tryz.results20, go_sem, HS.out.c0, HS.out.c1, HS.out.c2]) rfl ⟨by rw [HV.out]; try rfl, HBS.out.drew⟩
        · rw [if_neg (fun h => c47 (Option.some.inj h))] at hV
          have t47 : ((c.toNat : Int) == 47) = false := by rw [beq_eq_false_iff_ne]; intro h; exact c47 (UInt8.toNat_inj.1 (by show c.toNat = 47; omega))
          have HVV := Lib.hid hV
          have HLB := Lib.hid hlb
          have HAT := Lib.hid hat
          have HTK := Lib.hid htk
          have HDP := Lib.hid hdp
          clear hV hlb hmid hat htk hdp c43 c126 c47 hlast
          go_enter Tryz.func20, Tryz.ntmps20
          go_wp2_with fail
          refine (D0.out _).mono ?_
          rintro e w1 ⟨rfl, hB⟩
          have HB1 := Lib.hid (HB.out.trans (hB.mono HB.out.size))
          have HT1 := Lib.hid (HT.out.beside hB)
          clear hB
          go_wp2_with fail
          refine (HD1.out _).mono ?_
          rintro e w2 ⟨rfl, hB⟩
          have HB2 := Lib.hid (HB1.out.trans (hB.mono HB1.out.size))
          have HT2 := Lib.hid (HT1.out.beside hB)
          clear hB
          go_wp2_with fail
          go_loop [10] (fun i => ∃ k : Nat, k ≤ S.size ∧ i = .int .i64 k ∧ ∀ j, j < k → l[j]? ≠ some 126) (fun i => S.size - (RowKit.intOf i).toNat)
          case atStart => exact ⟨0, by omega, rfl, fun j hj => absurd hj (by omega)⟩
          case round =>
            obtain ⟨k, hk, rfl, hno⟩ := hrel
            have HNO := Lib.hid hno
            clear hno
            by_cases hlt : k < S.size
            · have r0 : (k : Int) < (S.size : Int) := by omega
              obtain ⟨a, hak⟩ : ∃ a, l[k]? = some a := ⟨l[k]'(by omega), List.getElem?_eq_getElem (by omega)⟩
              have hi := fun w => HAT.out k a hak w
              by_cases ha : a = 126
              · subst ha
                have hi2 : ∀ w, (Instr.index 9 (.string S) (.int .i64 (k : Int))).run Tryz.prog w = .ok (.int .u8 126) w := hi
                have hcut := cut_at hak HNO.out
                have E1 := HLB.out (l.take k) (by rw [List.length_take]; omega)
                have E2 := HLB.out (l.drop (k + 1)) (by rw [List.length_drop]; omega)
                have hv2 := HVV.out
                rw [hcut] at hv2
                simp only [if_true] at hv2
                obtain ⟨⟨n3, b3⟩, hd3⟩ : ∃ x, dgs (l.take k) = x := ⟨_, rfl⟩
                obtain ⟨⟨n4, b4⟩, hd4⟩ : ∃ x, dgs (l.drop (k + 1)) = x := ⟨_, rfl⟩
                rw [hd3] at E1 hv2
                rw [hd4] at E2 hv2
                simp only at E1 E2 hv2
                have HE1 := Lib.hid E1
                have HE2 := Lib.hid E2
                have HV := Lib.hid (show V = .tuple #[.agg #[.int .i64 3, .int .i64 n3, .int .i64 n4], .bool (b3 && b4)] from hv2)
                have g1 := fun w => HTK.out k hk w
                have g2 := fun w => HDP.out k (by omega) w
                generalize (⟨(l.take k).toArray⟩ : ByteArray) = G1 at HE1 g1
                generalize (⟨(l.drop (k + 1)).toArray⟩ : ByteArray) = G2 at HE2 g2
                have wk : IntKind.i64.wrap ((k : Int) + 1) = (k : Int) + 1 := by simp [IntKind.wrap, IntKind.signed, IntKind.bits]; omega
                clear hi hcut hv2 E1 E2 hd3 hd4 hak
                go_wp2_with fail
                refine (HE1.out _).mono ?_
                rintro e w3 ⟨rfl, hB⟩
                have HB3 := Lib.hid (HB2.out.trans (hB.mono HB2.out.size))
                have HT3 := Lib.hid (HT2.out.beside hB)
                clear hB
                go_wp2_with fail
                refine (HE2.out _).mono ?_
                rintro e w4 ⟨rfl, hB⟩
                have HB4 := Lib.hid (HB3.out.trans (hB.mono HB3.out.size))
                have HT4 := Lib.hid (HT3.out.beside hB)
                clear hB
                cases b3
                · have HS := Lib.hid (HT4.out.s (.int .i64 3) (.int .i64 n3) (.int .i64 n4))
                  have HBS := Lib.hid (Below.set3 HB4.out (b := w.heap.size) (Nat.le_refl _) (.int .i64 3) (.int .i64 n3) (.int .i64 n4))
                  have c0 := HT4.out.c0
                  have c1 := HT4.out.c1
                  have c2 := HT4.out.c2
                  have f0 := HT4.out.fz 0
                  have f1 := HT4.out.fz 1
                  have f2 := HT4.out.fz 2
                  go_wp2
                  exact bodyPost_ret (v := .tuple #[.agg #[.int .i64 3, .int .i64 n3, .int .i64 n4], .bool false]) (by simp [results, Tryz.results20, go_sem, HS.out.c0, HS.out.c1, HS.out.c2]) rfl ⟨by rw [HV.out]; try rfl, HBS.out⟩
                · have HS := Lib.hid (HT4.out.s (.int .i64 3) (.int .i64 n3) (.int .i64 n4))
                  have HBS := Lib.hid (Below.set3 HB4.out (b := w.heap.size) (Nat.le_refl _) (.int .i64 3) (.int .i64 n3) (.int .i64 n4))
                  have c0 := HT4.out.c0
                  have c1 := HT4.out.c1
                  have c2 := HT4.out.c2
                  have f0 := HT4.out.fz 0
                  have f1 := HT4.out.fz 1
                  have f2 := HT4.out.fz 2
                  go_wp2
                  exact bodyPost_ret (v := .tuple #[.agg #[.int .i64 3, .int .i64 n3, .int .i64 n4], .bool b4]) (by simp [results, Tryz.results20, go_sem, HS.out.c0, HS.out.c1, HS.out.c2]) rfl ⟨by rw [HV.out]; try rfl, HBS.out⟩
              · have hn2 : ((a.toNat : Int) == 126) = false := by rw [beq_eq_false_iff_ne]; intro h; exact ha (UInt8.toNat_inj.1 (by show a.toNat = 126; omega))
                have HN2 := Lib.hid (show ∀ j, j < k + 1 → l[j]? ≠ some 126 by
                  intro j hj
                  by_cases hjk : j = k
                  · subst hjk; rw [hak]; intro h; exact ha (Option.some.inj h)
                  · exact HNO.out j (by omega))
                clear hak
                go_wp2
                go_round
                case rel => exact ⟨k + 1, by omega, by simp, HN2.out⟩
                case measure => simp [RowKit.intOf]; omega
            · obtain rfl : k = S.size := by omega
              have hcut := cut_end (l := l) (fun j hj => HNO.out j (by omega))
              have hv2 := HVV.out
              rw [hcut] at hv2
              have HV := Lib.hid (show V = .tuple #[.agg #[.int .i64 0, .int .i64 0, .int .i64 0], .bool false] from hv2)
              have r0 : ¬ (S.size : Int) < (S.size : Int) := by omega
              clear hcut hv2
              have HS := Lib.hid (HT2.out.s (.int .i64 0) (.int .i64 0) (.int .i64 0))
              have HBS := Lib.hid (Below.set3 HB2.out (b := w.heap.size) (Nat.le_refl _) (.int .i64 0) (.int .i64 0) (.int .i64 0))
              have c0 := HT2.out.c0
              have c1 := HT2.out.c1
              have c2 := HT2.out.c2
              have f0 := HT2.out.fz 0
              have f1 := HT2.out.fz 1
              have f2 := HT2.out.fz 2
              go_wp2
              exact bodyPost_ret (v := .tuple #[.agg #[.int .i64 0, .int .i64 0, .int .i64 0], .bool false]) (by simp [results, Tryz.results20, go_sem, HS.out.c0, HS.out.c1, HS.out.c2]) rfl ⟨by rw [HV.out]; try rfl, HBS.out⟩
  · rw [if_pos rfl] at hV
    have HV := Lib.hid (show V = .tuple #[.agg #[.int .i64 1, .int .i64 n0, .int .i64 0], .bool true] from hV)
    clear hV hix hsl hmid hat htk hdp hlb hlast
    go_enter Tryz.func20, Tryz.ntmps20
    go_wp2_with fail
    refine (D0.out _).mono ?_
    rintro e w1 ⟨rfl, hB⟩
    have HB1 := Lib.hid (HB.out.trans (hB.mono HB.out.size))
    have HT1 := Lib.hid (HT.out.beside hB)
    clear hB
    have HS := Lib.hid (HT1.out.s (.int .i64 1) (.int .i64 n0) (.int .i64 0))
    have HBS := Lib.hid (Below.set3 HB1.out (b := w.heap.size) (Nat.le_refl _) (.int .i64 1) (.int .i64 n0) (.int .i64 0))
    have c0 := HT1.out.c0
    have c1 := HT1.out.c1
    have c2 := HT1.out.c2
    have f0 := HT1.out.fz 0
    have f1 := HT1.out.fz 1
    have f2 := HT1.out.fz 2
    go_wp2
    exact bodyPost_ret (v := .tuple #[.agg #[.int .i64 1, .int .i64 n0, .int .i64 0], .bool true]) (by simp [results, Tryz.results20, go_sem, HS.out.c0, HS.out.c1, HS.out.c2]) rfl ⟨by rw [HV.out]; try rfl, HBS.out⟩

end Go.Proofs.YtaamhjjdhebjfaaGreatDoor
