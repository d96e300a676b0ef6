/- The reference's Parse. -/
import Derived.Test.YtaamhjjdhebjfaaGreatDoorAdZd
import Derived.Deep.CutBlock
namespace Go.Proofs.YtaamhjjdhebjfaaGreatDoor
open Go.RowKit Go.Lib
set_option linter.unusedVariables false
set_option linter.unusedSimpArgs false

theorem cut_atc {b : UInt8} {l : List UInt8} {k : Nat} (hk : l[k]? = some b) (hn : ∀ j, j < k → l[j]? ≠ some b) : cut l [b] = (l.take k, l.drop (k + 1), true) := by
  obtain ⟨h1, h2⟩ := List.getElem?_eq_some_iff.1 hk
  have e : l = l.take k ++ b :: l.drop (k + 1) := by
    conv => lhs; rw [← List.take_append_drop k l, List.drop_eq_getElem_cons h1, h2]
  have hni : b ∉ l.take k := by
    intro hm
    obtain ⟨j, hj, e2⟩ := List.getElem_of_mem hm
    have hjk : j < k := by rw [List.length_take] at hj; omega
    refine hn j hjk ?_
    rw [List.getElem_take] at e2
    rw [List.getElem?_eq_getElem (by omega), e2]
  conv => lhs; rw [e]
  rw [cut_yes b _ _ hni]
theorem cut_endc {b : UInt8} {l : List UInt8} (hn : ∀ j, j < l.length → l[j]? ≠ some b) : cut l [b] = (l, [], false) := by
  refine cut_no b l (fun hm => ?_)
  obtain ⟨j, hj, e2⟩ := List.getElem_of_mem hm
  exact hn j hj (by rw [List.getElem?_eq_getElem hj, e2])
theorem suf_last {l : List UInt8} : hasSuffix l [33] = decide (l.getLast? = some 33) := by
  rw [Bool.eq_iff_iff, decide_eq_true_eq]
  unfold hasSuffix
  rw [List.isSuffixOf_iff_suffix]
  constructor
  · rintro ⟨t, rfl⟩; simp
  · intro h
    obtain ⟨t, rfl⟩ : ∃ t, l = t ++ [33] := by
      rcases List.eq_nil_or_concat l with rfl | ⟨t, x, rfl⟩
      · simp at h
      · refine ⟨t, ?_⟩; simp at h; rw [List.concat_eq_append, h]
    exact ⟨t, rfl⟩
theorem Seven.s6 {w : World} {b : Nat} {t : TypeId} {v0 v1 v2 v3 v4 v5 v6 : Value} (h : Seven w b t v0 v1 v2 v3 v4 v5 v6) (u6 : Value) : Seven (w.setCell ⟨b, 6, none⟩ u6) b t v0 v1 v2 v3 v4 v5 u6 := ⟨by rw [heap_setCell_same _ b 6 _ t u6 h.heap]; rfl⟩
theorem Seven.sa {w : World} {b : Nat} {t : TypeId} {v0 v1 v2 v3 v4 v5 v6 : Value} (h : Seven w b t v0 v1 v2 v3 v4 v5 v6) (u0 u1 u2 : Value) : Seven (((w.setCell ⟨b, 0, none⟩ u0).setCell ⟨b, 1, none⟩ u1).setCell ⟨b, 2, none⟩ u2) b t u0 u1 u2 v3 v4 v5 v6 := ⟨by rw [heap_setCell_same _ b 2 _ t u2 (heap_setCell_same _ b 1 _ t u1 (heap_setCell_same _ b 0 _ t u0 h.heap))]; rfl⟩
theorem Seven.sb {w : World} {b : Nat} {t : TypeId} {v0 v1 v2 v3 v4 v5 v6 : Value} (h : Seven w b t v0 v1 v2 v3 v4 v5 v6) (u0 u1 u2 : Value) : Seven (((w.setCell ⟨b, 3, none⟩ u0).setCell ⟨b, 4, none⟩ u1).setCell ⟨b, 5, none⟩ u2) b t v0 v1 v2 u0 u1 u2 v6 := ⟨by rw [heap_setCell_same _ b 5 _ t u2 (heap_setCell_same _ b 4 _ t u1 (heap_setCell_same _ b 3 _ t u0 h.heap))]; rfl⟩
theorem Seven.o3 {w : World} {b c i j k : Nat} {t : TypeId} {v0 v1 v2 v3 v4 v5 v6 : Value} (h : Seven w b t v0 v1 v2 v3 v4 v5 v6) (hc : b ≠ c) (u0 u1 u2 : Value) : Seven (((w.setCell ⟨c, i, none⟩ u0).setCell ⟨c, j, none⟩ u1).setCell ⟨c, k, none⟩ u2) b t v0 v1 v2 v3 v4 v5 v6 := ((h.other hc u0).other hc u1).other hc u2
theorem Three.o3 {w : World} {b c i j k : Nat} {t : TypeId} {v0 v1 v2 : Value} (h : Three w b t v0 v1 v2) (hc : b ≠ c) (u0 u1 u2 : Value) : Three (((w.setCell ⟨c, i, none⟩ u0).setCell ⟨c, j, none⟩ u1).setCell ⟨c, k, none⟩ u2) b t v0 v1 v2 := ((h.other hc u0).other hc u1).other hc u2
theorem Below.o3 {B c i j k : Nat} {a w : World} (h : Below B a w) (hc : B ≤ c) (u0 u1 u2 : Value) : Below B a (((w.setCell ⟨c, i, none⟩ u0).setCell ⟨c, j, none⟩ u1).setCell ⟨c, k, none⟩ u2) := ((h.setCell (p := ⟨c, i, none⟩) hc u0).setCell (p := ⟨c, j, none⟩) hc u1).setCell (p := ⟨c, k, none⟩) hc u2

set_option maxRecDepth 100000 in
set_option maxHeartbeats 8000000 in
theorem rparse_c (S : ByteArray) (hs : S.size ≤ 1000) (w : World) :
    Calls Tryz.prog 10 #[.string S] w fun e w' => e = .returned (parV (parQ S.data.toList)) ∧ Below w.heap.size w w' := by
  have hsz := size_dl S
  obtain ⟨V, hV⟩ : ∃ V, V = parV (parQ S.data.toList) := ⟨_, rfl⟩
  rw [← hV]
  have e0 : parQ S.data.toList = if ((rdB (cut (trimSuffix S.data.toList [33]) [44]).1).2 = true ∧ (rdB (cut (trimSuffix S.data.toList [33]) [44]).2.1).2 = true) ∧ mayR ⟨(rdB (cut (trimSuffix S.data.toList [33]) [44]).1).1, (rdB (cut (trimSuffix S.data.toList [33]) [44]).2.1).1, hasSuffix S.data.toList [33]⟩ = true ∧ textR ⟨(rdB (cut (trimSuffix S.data.toList [33]) [44]).1).1, (rdB (cut (trimSuffix S.data.toList [33]) [44]).2.1).1, hasSuffix S.data.toList [33]⟩ = S.data.toList then (⟨(rdB (cut (trimSuffix S.data.toList [33]) [44]).1).1, (rdB (cut (trimSuffix S.data.toList [33]) [44]).2.1).1, hasSuffix S.data.toList [33]⟩, 0) else (zeroR, 121) := rfl
  rw [e0] at hV
  clear e0
  have hsl := suf_len S.data.toList 33
  rw [hsz] at hsl
  obtain ⟨U, hU⟩ : ∃ U : ByteArray, U = ⟨(trimSuffix S.data.toList [33]).toArray⟩ := ⟨_, rfl⟩
  have hUd : trimSuffix S.data.toList [33] = U.data.toList := by rw [hU]
  have hUs := size_dl U
  have hUm := Lib.mk_data U
  rw [hUd] at hV hsl
  have hU1 : U.size ≤ 1000 := by omega
  have hcl := cut_len U.data.toList 44
  obtain ⟨⟨ca, cb, cf⟩, hcu⟩ : ∃ x, cut U.data.toList [44] = x := ⟨_, rfl⟩
  rw [hcu] at hV hcl
  simp only at hV hcl
  have R1 := fun w => rread_c ⟨ca.toArray⟩ (by rw [ba_size]; omega) w
  have R2 := fun w => rread_c ⟨cb.toArray⟩ (by rw [ba_size]; omega) w
  simp only at R1 R2
  obtain ⟨⟨A, a2⟩, hA⟩ : ∃ x, rdB ca = x := ⟨_, rfl⟩
  obtain ⟨⟨B, b2⟩, hBB⟩ : ∃ x, rdB cb = x := ⟨_, rfl⟩
  rw [hA] at R1 hV
  rw [hBB] at R2 hV
  simp only at R1 R2 hV
  clear hA hBB
  obtain ⟨nt, hnt⟩ : ∃ nt, hasSuffix S.data.toList [33] = nt := ⟨_, rfl⟩
  rw [hnt] at hV
  have P1 := fun w => rprint_c ⟨A, B, nt⟩ w
  obtain ⟨ak, an, am⟩ := A
  obtain ⟨bk, bn, bm⟩ := B
  unfold adv at R1 R2
  unfold rgv at P1
  simp only at R1 R2 P1
  have HR1 := Lib.hid R1
  have HR2 := Lib.hid R2
  have HP := Lib.hid P1
  have HV := Lib.hid hV
  have HU := Lib.hid hU
  have HUD := Lib.hid hUd
  have HUM := Lib.hid hUm
  have HCU := Lib.hid hcu
  have HNT := Lib.hid hnt
  have hBa := (Below.refl _ w).alloc (Nat.le_refl _) (.cells #[.int .i64 0, .int .i64 0, .int .i64 0, .int .i64 0, .int .i64 0, .int .i64 0, .bool false] 33)
  have hTa := Seven.new w 33 (.int .i64 0) (.int .i64 0) (.int .i64 0) (.int .i64 0) (.int .i64 0) (.int .i64 0) (.bool false)
  have hBb := (Below.refl _ (w.alloc (.cells #[.int .i64 0, .int .i64 0, .int .i64 0, .int .i64 0, .int .i64 0, .int .i64 0, .bool false] 33))).alloc (Nat.le_refl _) (.cells #[.int .i64 0, .int .i64 0, .int .i64 0, .int .i64 0, .int .i64 0, .int .i64 0, .bool false] 33)
  have HB := Lib.hid (hBa.trans (hBb.mono hBa.size))
  have HT := Lib.hid (hTa.beside hBb)
  have hQ := Seven.new (w.alloc (.cells #[.int .i64 0, .int .i64 0, .int .i64 0, .int .i64 0, .int .i64 0, .int .i64 0, .bool false] 33)) 33 (.int .i64 0) (.int .i64 0) (.int .i64 0) (.int .i64 0) (.int .i64 0) (.int .i64 0) (.bool false)
  rw [show (w.alloc (.cells #[.int .i64 0, .int .i64 0, .int .i64 0, .int .i64 0, .int .i64 0, .int .i64 0, .bool false] 33)).heap.size = w.heap.size + 1 from Array.size_push _] at hQ
  have HQ := Lib.hid hQ
  have hone : w.heap.size ≠ w.heap.size + 1 := by omega
  clear hQ hTa hBa hBb R1 R2 P1 hV hU hUd hUm hcu hnt
  go_enter Tryz.func10, Tryz.ntmps10
  go_upto_region 3 with fail
  generalize (w.alloc (.cells #[.int .i64 0, .int .i64 0, .int .i64 0, .int .i64 0, .int .i64 0, .int .i64 0, .bool false] 33)).alloc (.cells #[.int .i64 0, .int .i64 0, .int .i64 0, .int .i64 0, .int .i64 0, .int .i64 0, .bool false] 33) = W0 at *
  go_cut [26] from 15 (fun v wx => v = .bool nt ∧ wx = W0)
  case first =>
    have hnt := HNT.out
    rw [suf_last] at hnt
    by_cases h0 : S.data.toList = []
    · have t0 : S.toList.isEmpty = true := by rw [Lib.toList_data, h0]; rfl
      rw [h0] at hnt
      obtain rfl : false = nt := by rw [← hnt]; decide
      clear h0 hnt
      go_wp2_with fail
      go_meet
      exact ⟨rfl, rfl⟩
    · have t0 : S.toList.isEmpty = false := by
        rw [Lib.toList_data]; cases hh : S.data.toList with
        | nil => exact absurd hh h0
        | cons a b => rfl
      have hs1 : 1 ≤ S.size := by
        rw [← hsz]; exact List.length_pos_iff.2 h0
      obtain ⟨z, hz1, hz2⟩ : ∃ z, S.data.toList.getLast? = some z ∧ S.data.toList[S.size - 1]? = some z := by
        refine ⟨S.data.toList.getLast h0, List.getLast?_eq_some_getLast h0, ?_⟩
        rw [← hsz, ← List.getLast?_eq_getElem?]
        exact List.getLast?_eq_some_getLast h0
      have hzi := fun w => index_at S (S.size - 1) z hz2 w
      rw [show ((S.size - 1 : Nat) : Int) = (S.size : Int) - 1 by omega] at hzi
      rw [hz1] at hnt
      have ws : IntKind.i64.wrap ((S.size : Int) - 1) = (S.size : Int) - 1 := by simp [IntKind.wrap, IntKind.signed, IntKind.bits]; omega
      clear hz1 hz2 h0
      by_cases hz : z = 33
      · subst hz
        have hzj : ∀ w, (Instr.index 9 (.string S) (.int .i64 ((S.size : Int) - 1))).run Tryz.prog w = .ok (.int .u8 33) w := hzi
        obtain rfl : true = nt := by rw [← hnt]; decide
        clear hnt hzi
        go_wp2_with fail
        go_meet
        exact ⟨rfl, rfl⟩
      · have tz : ((z.toNat : Int) == 33) = false := by rw [beq_eq_false_iff_ne]; intro h; exact hz (UInt8.toNat_inj.1 (by show z.toNat = 33; omega))
        obtain rfl : false = nt := by rw [← hnt]; simpa using hz
        clear hnt hz
        go_wp2_with fail
        go_meet
        exact ⟨rfl, rfl⟩
  case rest =>
    obtain ⟨rfl, hwc⟩ := hcut
    subst hwc
    go_upto_if 26 with fail
    go_cut [5] from 15 (fun uv wx => uv = .string U ∧ Below w.heap.size w wx ∧ Seven wx w.heap.size 33 (.int .i64 0) (.int .i64 0) (.int .i64 0) (.int .i64 0) (.int .i64 0) (.int .i64 0) (.bool false) ∧ Seven wx (w.heap.size + 1) 33 (.int .i64 0) (.int .i64 0) (.int .i64 0) (.int .i64 0) (.int .i64 0) (.int .i64 0) (.bool nt))
    case first =>
      cases nt with
      | false =>
        have hUS : S = U := by
          rw [HU.out]; unfold trimSuffix; rw [HNT.out, if_neg (by simp), Lib.mk_data]
        have HUS := Lib.hid hUS
        clear hUS
        go_wp2_with fail
        go_meet
        exact ⟨by rw [HUS.out], HB.out, HT.out, HQ.out⟩
      | true =>
        have hs1 : 1 ≤ S.size := by
          have h := HNT.out
          rw [suf_last, decide_eq_true_eq] at h
          rw [← hsz]; refine List.length_pos_iff.2 (fun h0 => ?_)
          rw [h0] at h; cases h
        have hsl2 : ∀ w, (Instr.slice 9 (.string S) none (some (.int .i64 ((S.size : Int) - 1))) none).run Tryz.prog w = .ok (.string U) w := fun w => by
          have h := sl_take S (S.size - 1) (by omega) w
          rw [show ((S.size - 1 : Nat) : Int) = (S.size : Int) - 1 by omega] at h
          rw [h, HU.out]
          unfold trimSuffix
          rw [HNT.out, if_pos rfl, hsz]
          rfl
        have ws : IntKind.i64.wrap ((S.size : Int) - 1) = (S.size : Int) - 1 := by simp [IntKind.wrap, IntKind.signed, IntKind.bits]; omega
        have c6 := HQ.out.c6
        have f6 := HQ.out.fz 6
        have HT1 := Lib.hid (HT.out.other (p := ⟨w.heap.size + 1, 6, none⟩) hone (.bool true))
        have HQ1 := Lib.hid (HQ.out.s6 (.bool true))
        have HB1 := Lib.hid (HB.out.setCell (p := ⟨w.heap.size + 1, 6, none⟩) (Nat.le_succ _) (.bool true))
        go_wp2_with fail
        go_meet
        exact ⟨rfl, HB1.out, HT1.out, HQ1.out⟩
    case rest =>
      obtain ⟨rfl, hb, ht, hq⟩ := hcut
      have HB1 := Lib.hid hb
      have HT1 := Lib.hid ht
      have HQ1 := Lib.hid hq
      clear hb ht hq HB HT HQ
      go_upto_block 0 with fail
      go_cut [6, 7, 8] from 15 (fun fv sv iv wx => fv = .string ⟨ca.toArray⟩ ∧ sv = .string ⟨cb.toArray⟩ ∧ Below w.heap.size w wx ∧ Seven wx w.heap.size 33 (.int .i64 0) (.int .i64 0) (.int .i64 0) (.int .i64 0) (.int .i64 0) (.int .i64 0) (.bool false) ∧ Seven wx (w.heap.size + 1) 33 (.int .i64 0) (.int .i64 0) (.int .i64 0) (.int .i64 0) (.int .i64 0) (.int .i64 0) (.bool nt))
      case first =>
        have hat := fun k c h w => index_at U k c h w
        have htk := fun k h w => sl_take U k h w
        have hdp := fun k h w => sl_drop U k h w
        have hcu := HCU.out
        have hum := HUM.out
        generalize U.data.toList = l at hat htk hdp hcu hum hUs
        have HAT := Lib.hid hat
        have HTK := Lib.hid htk
        have HDP := Lib.hid hdp
        have HC := Lib.hid hcu
        have HM := Lib.hid hum
        clear hat htk hdp hcu hum HV HR1 HR2 HP HU HUD HUM HCU HNT
        go_wp2_with fail
        go_loop [6, 7, 8] (fun fv sv i => ∃ k : Nat, k ≤ U.size ∧ fv = .string U ∧ sv = .string ⟨#[]⟩ ∧ i = .int .i64 k ∧ ∀ j, j < k → l[j]? ≠ some 44) (fun fv sv i => U.size - (RowKit.intOf i).toNat)
        case atStart => exact ⟨0, by omega, rfl, rfl, rfl, fun j hj => absurd hj (by omega)⟩
        case round =>
          obtain ⟨k, hk, rfl, rfl, rfl, hno⟩ := hrel
          have HNO := Lib.hid hno
          clear hno
          by_cases hlt : k < U.size
          · have r0 : (k : Int) < (U.size : Int) := by omega
            obtain ⟨a, hak⟩ : ∃ a, l[k]? = some a := ⟨l[k]'(by omega), List.getElem?_eq_getElem (by omega)⟩
            have hi := fun w => HAT.out k a hak w
            have wk : IntKind.i64.wrap ((k : Int) + 1) = (k : Int) + 1 := by simp [IntKind.wrap, IntKind.signed, IntKind.bits]; omega
            by_cases ha : a = 44
            · subst ha
              have hi2 : ∀ w, (Instr.index 9 (.string U) (.int .i64 (k : Int))).run Tryz.prog w = .ok (.int .u8 44) w := hi
              have hcut := (cut_atc hak HNO.out).symm.trans HC.out
              simp only [Prod.mk.injEq] at hcut
              obtain ⟨q1, q2, -⟩ := hcut
              have g1 := fun w => HTK.out k hk w
              have g2 := fun w => HDP.out k (by omega) w
              rw [q1] at g1
              rw [q2] at g2
              clear hi hak q1 q2
              go_wp2_with fail
              go_meet
              exact ⟨rfl, rfl, HB1.out, HT1.out, HQ1.out⟩
            · have hn2 : ((a.toNat : Int) == 44) = false := by rw [beq_eq_false_iff_ne]; intro h; exact ha (UInt8.toNat_inj.1 (by show a.toNat = 44; omega))
              have HN2 := Lib.hid (show ∀ j, j < k + 1 → l[j]? ≠ some 44 by
                intro j hj
                by_cases hjk : j = k
                · subst hjk; rw [hak]; intro h; exact ha (Option.some.inj h)
                · exact HNO.out j (by omega))
              clear hak
              go_wp2
              go_round
              case rel => exact ⟨k + 1, by omega, rfl, rfl, by simp, HN2.out⟩
              case measure => simp [RowKit.intOf]; omega
          · obtain rfl : k = U.size := by omega
            have hcut := (cut_endc (l := l) (fun j hj => HNO.out j (by omega))).symm.trans HC.out
            simp only [Prod.mk.injEq] at hcut
            obtain ⟨q1, q2, -⟩ := hcut
            have HQ0 := Lib.hid (show U = ⟨ca.toArray⟩ by rw [← q1, HM.out])
            have HQ9 := Lib.hid (show (⟨#[]⟩ : ByteArray) = ⟨cb.toArray⟩ by rw [← q2])
            have r0 : ¬ (U.size : Int) < (U.size : Int) := by omega
            clear q1 q2
            go_wp2_with fail
            go_meet
            exact ⟨by rw [HQ0.out], by rw [HQ9.out], HB1.out, HT1.out, HQ1.out⟩
      case rest =>
        obtain ⟨rfl, rfl, hb, ht, hq⟩ := hcut
        have HB2 := Lib.hid hb
        have HT2 := Lib.hid ht
        have HQ2 := Lib.hid hq
        clear hb ht hq HB1 HT1 HQ1
        clear HU HUD HUM HCU HNT hUs hsl hcl
        go_wp2_with fail
        refine (HR1.out _).mono ?_
        rintro e w1 ⟨rfl, hB⟩
        have hBa := (Below.refl _ w1).alloc (Nat.le_refl _) (.cells #[.int .i64 ak, .int .i64 an, .int .i64 am] 31)
        have hBc := hB.trans (hBa.mono hB.size)
        have HB3 := Lib.hid (HB2.out.trans (hBc.mono HB2.out.size))
        have HT3 := Lib.hid (HT2.out.beside hBc)
        have HQ3 := Lib.hid (HQ2.out.beside hBc)
        have HA3 := Lib.hid (Three.new w1 31 (.int .i64 ak) (.int .i64 an) (.int .i64 am))
        clear hB hBa hBc
        go_wp2_with fail
        refine (HR2.out _).mono ?_
        rintro e w2 ⟨rfl, hB⟩
        have hBa := (Below.refl _ w2).alloc (Nat.le_refl _) (.cells #[.int .i64 bk, .int .i64 bn, .int .i64 bm] 31)
        have hBc := hB.trans (hBa.mono hB.size)
        have hq2 := (HQ3.out.beside hB).lt
        have HB4 := Lib.hid (HB3.out.trans (hBc.mono HB3.out.size))
        have HT4 := Lib.hid (HT3.out.beside hBc)
        have HQ4 := Lib.hid (HQ3.out.beside hBc)
        have HA4 := Lib.hid (HA3.out.beside hBc)
        have HE4 := Lib.hid (Three.new w2 31 (.int .i64 bk) (.int .i64 bn) (.int .i64 bm))
        clear hB hBa hBc
        go_upto_region 16 with fail
        generalize w2.alloc (.cells #[.int .i64 bk, .int .i64 bn, .int .i64 bm] 31) = W4 at *
        generalize w2.heap.size = p2 at *
        generalize w1.heap.size = p1 at *
        have hp2 : p2 ≠ w.heap.size + 1 := by omega
        have a0 := HA4.out.c0
        have a1 := HA4.out.c1
        have a2' := HA4.out.c2
        have q0 := HQ4.out.c0
        have q1 := HQ4.out.c1
        have q2 := HQ4.out.c2
        have g0 := HQ4.out.fz 0
        have g1 := HQ4.out.fz 1
        have g2 := HQ4.out.fz 2
        have HB5 := Lib.hid (Below.o3 HB4.out (i := 0) (j := 1) (k := 2) (Nat.le_succ _) (.int .i64 ak) (.int .i64 an) (.int .i64 am))
        have HT5 := Lib.hid (HT4.out.o3 (i := 0) (j := 1) (k := 2) hone (.int .i64 ak) (.int .i64 an) (.int .i64 am))
        have HQ5 := Lib.hid (HQ4.out.sa (.int .i64 ak) (.int .i64 an) (.int .i64 am))
        have HE5 := Lib.hid (HE4.out.o3 (i := 0) (j := 1) (k := 2) hp2 (.int .i64 ak) (.int .i64 an) (.int .i64 am))
        go_upto_region 17 with fail
        generalize ((W4.setCell ⟨w.heap.size + 1, 0, none⟩ (.int .i64 ak)).setCell ⟨w.heap.size + 1, 1, none⟩ (.int .i64 an)).setCell ⟨w.heap.size + 1, 2, none⟩ (.int .i64 am) = W5 at *
        clear a0 a1 a2' q0 q1 q2 g0 g1 g2
        have a0 := HE5.out.c0
        have a1 := HE5.out.c1
        have a2' := HE5.out.c2
        have q0 := HQ5.out.c3
        have q1 := HQ5.out.c4
        have q2 := HQ5.out.c5
        have g0 := HQ5.out.fz 3
        have g1 := HQ5.out.fz 4
        have g2 := HQ5.out.fz 5
        have HB6 := Lib.hid (Below.o3 HB5.out (i := 3) (j := 4) (k := 5) (Nat.le_succ _) (.int .i64 bk) (.int .i64 bn) (.int .i64 bm))
        have HT6 := Lib.hid (HT5.out.o3 (i := 3) (j := 4) (k := 5) hone (.int .i64 bk) (.int .i64 bn) (.int .i64 bm))
        have HQ6 := Lib.hid (HQ5.out.sb (.int .i64 bk) (.int .i64 bn) (.int .i64 bm))
        go_upto_region 18 with fail
        generalize ((W5.setCell ⟨w.heap.size + 1, 3, none⟩ (.int .i64 bk)).setCell ⟨w.heap.size + 1, 4, none⟩ (.int .i64 bn)).setCell ⟨w.heap.size + 1, 5, none⟩ (.int .i64 bm) = W6 at *
        clear a0 a1 a2' q0 q1 q2 g0 g1 g2
        have q0 := HQ6.out.c0
        have q1 := HQ6.out.c1
        have q2 := HQ6.out.c2
        have q3 := HQ6.out.c3
        have q4 := HQ6.out.c4
        have q5 := HQ6.out.c5
        have q6 := HQ6.out.c6
        go_wp2_with fail
        refine (HP.out _).mono ?_
        rintro e w3 ⟨rfl, hB⟩
        have HB7 := Lib.hid (HB6.out.trans (hB.mono HB6.out.size))
        have HT7 := Lib.hid (HT6.out.beside hB)
        have HQ7 := Lib.hid (HQ6.out.beside hB)
        clear hB q0 q1 q2 q3 q4 q5 q6 HB2 HB3 HB4 HB5 HB6 HT2 HT3 HT4 HT5 HT6 HQ2 HQ3 HQ4 HQ5 HQ6 HA3 HA4 HE4 HE5 HR1 HR2 HP
        have c0 := HT7.out.c0
        have c1 := HT7.out.c1
        have c2 := HT7.out.c2
        have c3 := HT7.out.c3
        have c4 := HT7.out.c4
        have c5 := HT7.out.c5
        have c6 := HT7.out.c6
        have f0 := HT7.out.fz 0
        have f1 := HT7.out.fz 1
        have f2 := HT7.out.fz 2
        have f3 := HT7.out.fz 3
        have f4 := HT7.out.fz 4
        have f5 := HT7.out.fz 5
        have f6 := HT7.out.fz 6
        have q0 := HQ7.out.c0
        have q1 := HQ7.out.c1
        have q2 := HQ7.out.c2
        have q3 := HQ7.out.c3
        have q4 := HQ7.out.c4
        have q5 := HQ7.out.c5
        have q6 := HQ7.out.c6
        have HSZ := Lib.hid (HT7.out.s (.int .i64 0) (.int .i64 0) (.int .i64 0) (.int .i64 0) (.int .i64 0) (.int .i64 0) (.bool false))
        have HBZ := Lib.hid (Below.set7 HB7.out (b := w.heap.size) (Nat.le_refl _) (.int .i64 0) (.int .i64 0) (.int .i64 0) (.int .i64 0) (.int .i64 0) (.int .i64 0) (.bool false))
        have HSR := Lib.hid (HT7.out.s (.int .i64 ak) (.int .i64 an) (.int .i64 am) (.int .i64 bk) (.int .i64 bn) (.int .i64 bm) (.bool nt))
        have HBR := Lib.hid (Below.set7 HB7.out (b := w.heap.size) (Nat.le_refl _) (.int .i64 ak) (.int .i64 an) (.int .i64 am) (.int .i64 bk) (.int .i64 bn) (.int .i64 bm) (.bool nt))
        obtain ⟨R, hR⟩ : ∃ R : Rg, R = ⟨⟨ak, an, am⟩, ⟨bk, bn, bm⟩, nt⟩ := ⟨_, rfl⟩
        have hv := HV.out
        rw [← hR] at hv ⊢
        unfold priV
        have hRV : parV (R, 0) = .tuple #[.agg #[.int .i64 ak, .int .i64 an, .int .i64 am, .int .i64 bk, .int .i64 bn, .int .i64 bm, .bool nt], .int .i64 0] := by rw [hR]; rfl
        have hZV : parV (zeroR, 121) = .tuple #[.agg #[.int .i64 0, .int .i64 0, .int .i64 0, .int .i64 0, .int .i64 0, .int .i64 0, .bool false], .int .i64 121] := rfl
        have HRV := Lib.hid hRV
        have HZV := Lib.hid hZV
        clear hRV hZV HV hR
        by_cases hgood : (a2 = true ∧ b2 = true) ∧ mayR R = true ∧ textR R = S.data.toList
        · rw [if_pos hgood] at hv
          obtain ⟨⟨rfl, rfl⟩, hm, htx⟩ := hgood
          have HV := Lib.hid hv
          rw [if_pos hm, htx, Lib.mk_data]
          have t1 : (S.toList == S.toList) = true := beq_self_eq_true _
          clear hv hm htx
          go_wp2
          exact bodyPost_ret (v := .tuple #[.agg #[.int .i64 ak, .int .i64 an, .int .i64 am, .int .i64 bk, .int .i64 bn, .int .i64 bm, .bool nt], .int .i64 0]) (by simp [results, Tryz.results10, go_sem, HSR.out.c0, HSR.out.c1, HSR.out.c2, HSR.out.c3, HSR.out.c4, HSR.out.c5, HSR.out.c6]) rfl ⟨by rw [HV.out, HRV.out], HBR.out⟩
        · rw [if_neg hgood] at hv
          have HV := Lib.hid hv
          clear hv
          by_cases hm : mayR R = true
          · rw [if_pos hm]
            by_cases htx : textR R = S.data.toList
            · rw [htx, Lib.mk_data]
              cases a2
              · clear hgood hm htx
                go_wp2
                exact bodyPost_ret (v := .tuple #[.agg #[.int .i64 0, .int .i64 0, .int .i64 0, .int .i64 0, .int .i64 0, .int .i64 0, .bool false], .int .i64 121]) (by simp [results, Tryz.results10, go_sem, HSZ.out.c0, HSZ.out.c1, HSZ.out.c2, HSZ.out.c3, HSZ.out.c4, HSZ.out.c5, HSZ.out.c6]) rfl ⟨by rw [HV.out, HZV.out], HBZ.out⟩
              · cases b2
                · clear hgood hm htx
                  go_wp2
                  exact bodyPost_ret (v := .tuple #[.agg #[.int .i64 0, .int .i64 0, .int .i64 0, .int .i64 0, .int .i64 0, .int .i64 0, .bool false], .int .i64 121]) (by simp [results, Tryz.results10, go_sem, HSZ.out.c0, HSZ.out.c1, HSZ.out.c2, HSZ.out.c3, HSZ.out.c4, HSZ.out.c5, HSZ.out.c6]) rfl ⟨by rw [HV.out, HZV.out], HBZ.out⟩
                · exact absurd ⟨⟨rfl, rfl⟩, hm, htx⟩ hgood
            · have t1 : ((⟨(textR R).toArray⟩ : ByteArray).toList == S.toList) = false := by
                rw [beq_eq_false_iff_ne, Lib.toList_data, Lib.toList_data]; exact htx
              generalize (⟨(textR R).toArray⟩ : ByteArray) = TX at t1 ⊢
              clear hgood hm htx
              cases a2
              · go_wp2
                exact bodyPost_ret (v := .tuple #[.agg #[.int .i64 0, .int .i64 0, .int .i64 0, .int .i64 0, .int .i64 0, .int .i64 0, .bool false], .int .i64 121]) (by simp [results, Tryz.results10, go_sem, HSZ.out.c0, HSZ.out.c1, HSZ.out.c2, HSZ.out.c3, HSZ.out.c4, HSZ.out.c5, HSZ.out.c6]) rfl ⟨by rw [HV.out, HZV.out], HBZ.out⟩
              · cases b2
                · go_wp2
                  exact bodyPost_ret (v := .tuple #[.agg #[.int .i64 0, .int .i64 0, .int .i64 0, .int .i64 0, .int .i64 0, .int .i64 0, .bool false], .int .i64 121]) (by simp [results, Tryz.results10, go_sem, HSZ.out.c0, HSZ.out.c1, HSZ.out.c2, HSZ.out.c3, HSZ.out.c4, HSZ.out.c5, HSZ.out.c6]) rfl ⟨by rw [HV.out, HZV.out], HBZ.out⟩
                · go_wp2
                  exact bodyPost_ret (v := .tuple #[.agg #[.int .i64 0, .int .i64 0, .int .i64 0, .int .i64 0, .int .i64 0, .int .i64 0, .bool false], .int .i64 121]) (by simp [results, Tryz.results10, go_sem, HSZ.out.c0, HSZ.out.c1, HSZ.out.c2, HSZ.out.c3, HSZ.out.c4, HSZ.out.c5, HSZ.out.c6]) rfl ⟨by rw [HV.out, HZV.out], HBZ.out⟩
          · rw [if_neg hm]
            clear hgood hm
            cases a2
            · go_wp2
              exact bodyPost_ret (v := .tuple #[.agg #[.int .i64 0, .int .i64 0, .int .i64 0, .int .i64 0, .int .i64 0, .int .i64 0, .bool false], .int .i64 121]) (by simp [results, Tryz.results10, go_sem, HSZ.out.c0, HSZ.out.c1, HSZ.out.c2, HSZ.out.c3, HSZ.out.c4, HSZ.out.c5, HSZ.out.c6]) rfl ⟨by rw [HV.out, HZV.out], HBZ.out⟩
            · cases b2
              · go_wp2
                exact bodyPost_ret (v := .tuple #[.agg #[.int .i64 0, .int .i64 0, .int .i64 0, .int .i64 0, .int .i64 0, .int .i64 0, .bool false], .int .i64 121]) (by simp [results, Tryz.results10, go_sem, HSZ.out.c0, HSZ.out.c1, HSZ.out.c2, HSZ.out.c3, HSZ.out.c4, HSZ.out.c5, HSZ.out.c6]) rfl ⟨by rw [HV.out, HZV.out], HBZ.out⟩
              · go_wp2
                exact bodyPost_ret (v := .tuple #[.agg #[.int .i64 0, .int .i64 0, .int .i64 0, .int .i64 0, .int .i64 0, .int .i64 0, .bool false], .int .i64 121]) (by simp [results, Tryz.results10, go_sem, HSZ.out.c0, HSZ.out.c1, HSZ.out.c2, HSZ.out.c3, HSZ.out.c4, HSZ.out.c5, HSZ.out.c6]) rfl ⟨by rw [HV.out, HZV.out], HBZ.out⟩

end Go.Proofs.YtaamhjjdhebjfaaGreatDoor
