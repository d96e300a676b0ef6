/- The reference's Back. -/
import Derived.Test.YthnadcmejaciaaaDoorTrQ
namespace Go.Proofs.YthnadcmejaciaaaDoor
open Go.RowKit
set_option linter.unusedVariables false
set_option linter.unusedSimpArgs false

theorem slice_to (S : ByteArray) (k : Nat) (hk : k ≤ S.size) (T : ByteArray) (hT : T.data.toList = S.data.toList.take k) (W : World) :
    (Instr.slice 9 (.string S) none (some (.int .i64 (k : Int))) none).run Tryd.prog W = .ok (.string T) W := by
  have e : S.extract 0 (k : Int).toNat = T := by
    apply ByteArray.ext
    apply Array.ext'
    rw [hT]
    simp only [ByteArray.data_extract, Array.toList_extract, Int.toNat_natCast, List.extract_eq_take_drop]
    simp
  rw [run_slice_string_to_if (P := Tryd.prog) W 9 _ .i64 (k : Int) Tryd.underlying9, if_pos ⟨by omega, by omega⟩, e]
theorem rdr_read : ∀ (n : Nat) (l : List UInt8) (t : List UInt8), rdr n l = some t → t.length ≤ l.length
  | 0, _, _, h => by cases h
  | n + 1, l, t, h => by
    rw [rdr] at h
    split at h
    · cases h; simp
    · split at h
      · have := rdr_read n _ t h
        rw [List.length_drop] at this; omega
      · split at h
        · cases h
        · rename_i b hb
          obtain ⟨q, hq, rfl⟩ := Option.map_eq_some_iff.1 h
          have h1 := rdr_read n _ q hq
          have h2 := pc_len b
          obtain ⟨r, rfl⟩ := fst_some hb
          rw [List.drop_left] at h1
          rw [List.length_append, List.length_cons]
          omega
theorem rdr_map (n : Nat) (l : List UInt8) (h : n = l.length + 1) (h2 : ¬ l.length ≤ 2) (h3 : ¬ [92, 10] <+: l) : rdr n l = match fst l with
    | none => none
    | some b => (rdr ((l.drop (pc b).length).length + 1) (l.drop (pc b).length)).map (b :: ·) := by
  subst h
  rw [rdr, if_neg h2, if_neg h3]
  cases hf : fst l with
  | none => rfl
  | some b =>
    simp only
    have := pc_len b
    rw [rdr_fuel _ _ _ (by rw [List.length_drop]; omega) (Nat.lt_succ_self _)]
theorem rdr_fold (n : Nat) (l : List UInt8) (h : n = l.length + 1) (h2 : ¬ l.length ≤ 2) (h3 : [92, 10] <+: l) : rdr n l = rdr ((l.drop 2).length + 1) (l.drop 2) := by
  subst h
  rw [rdr, if_neg h2, if_pos h3]
  exact rdr_fuel _ _ _ (by rw [List.length_drop]; omega) (Nat.lt_succ_self _)

set_option maxRecDepth 100000 in
set_option maxHeartbeats 8000000 in
theorem rback_c (S : ByteArray) (hs : S.size ≤ 5000) (w : World) :
    Calls Tryd.prog 22 #[.string S] w fun e w' => e = .returned (backV (backR S.data.toList)) ∧ Below w.heap.size w w' := by
  obtain ⟨l, hl⟩ : ∃ l, l = S.data.toList := ⟨_, rfl⟩
  have hll : l.length = S.size := by rw [hl]; simp
  rw [← hl]
  have HL := Lib.hid hl
  have HLL := Lib.hid hll
  have HPC := Lib.hid (fun b w => rpiece_c b w)
  clear hl hll
  go_enter Tryd.func22, Tryd.ntmps22
  go_wp2
  go_loopw [4, 5] (fun o r wr => ∃ (out rest : List UInt8) (t R : ByteArray), o = .string t ∧ t = ⟨out.toArray⟩ ∧ r = .string R ∧ R = ⟨rest.toArray⟩ ∧ out.length + rest.length ≤ 5000 ∧ rdr (l.length + 1) l = (rdr (rest.length + 1) rest).map (out ++ ·) ∧ Below w.heap.size w wr) (fun _ r _ => match r with | .string R => R.size | _ => 0)
  case atStart =>
    refine ⟨[], l, _, S, rfl, rfl, rfl, ?_, ?_, ?_, Below.refl _ _⟩
    · rw [HL.out]
    · have := HLL.out; simp; omega
    · cases rdr (l.length + 1) l <;> simp
  case round =>
    obtain ⟨out, rest, t, R, rfl, ht, rfl, hR, hlen, hrd, hB⟩ := hrel
    have lB := hB.size
    have hRl : R.data.toList = rest := by rw [hR]
    have hRt : R.toList = rest := by rw [Lib.toList_data]; exact hRl
    have hRs : R.size = rest.length := by rw [hR, ba_size]
    have hts : t.size = out.length := by rw [ht, ba_size]
    have HT := Lib.hid ht
    have HRS := Lib.hid hRs
    clear ht hR
    by_cases h2 : rest.length ≤ 2
    · have t1 : ¬ (2 : Int) < (R.size : Int) := by omega
      have t2 : ¬ 2 < R.size := by omega
      have hfin : rdr (l.length + 1) l = some out := by
        rw [hrd, rdr, if_pos h2]; simp
      have HF := Lib.hid hfin
      have hob : t.size ≤ 5000 := by omega
      have htl : t.data.toList = out := by rw [HT.out]
      have HRL := fun (wd : Nat) w (h : wd ≤ 300) => rlist_c t (wd : Int) (by omega) (by omega) w
      rw [htl] at HRL
      have HRLH := Lib.hid HRL
      clear hrd hfin hRl hRt hRs HRL htl hts hlen
      go_wp2
      go_loopw [9] (fun i wr' => ∃ k : Nat, k ≤ 301 ∧ i = .int .i64 k ∧ (∀ j : Nat, j < k → lst out (j : Nat) ≠ l) ∧ Below w.heap.size w wr') (fun i _ => 301 - (RowKit.intOf i).toNat)
      case atStart => exact ⟨0, by omega, rfl, fun j hj => absurd hj (by omega), hB⟩
      case round =>
        obtain ⟨k, hk, rfl, hno, hB'⟩ := hrel
        have HNO := Lib.hid hno
        clear hno
        by_cases hlt : k ≤ 300
        · have hki : (k : Int) ≤ 300 := by omega
          obtain ⟨A, hA⟩ : ∃ A : ByteArray, A = ⟨(lst out (k : Int)).toArray⟩ := ⟨_, rfl⟩
          have HRK := HRLH.out k wr hlt
          have HRK2 := fun w => HRLH.out k w hlt
          rw [← hA] at HRK2
          have HRK3 := Lib.hid HRK2
          have hAt : A.toList = lst out (k : Int) := by rw [Lib.toList_data, hA]
          have hSt : S.toList = l := by rw [Lib.toList_data]; exact HL.out.symm
          by_cases hq : lst out (k : Int) = l
          · have q1 : (A.toList == S.toList) = true := by rw [hAt, hSt, hq]; simp
            have q2 : A.toList = S.toList := by rw [hAt, hSt, hq]
            have hyes : backR l = some out := backR_iff.2 ⟨k, hlt, hq⟩
            have HY := Lib.hid hyes
            clear hA hAt hSt hq HRK HRK2 hyes
            go_wp2_with fail
            refine (HRK3.out _).mono ?_
            rintro e w1 ⟨rfl, hB1⟩
            have HB1 := Lib.hid (hB'.trans (hB1.mono hB'.size))
            clear hB1
            go_wp2
            go_ret2
            exact ⟨by rw [HY.out, HT.out]; rfl, HB1.out⟩
          · have q1 : (A.toList == S.toList) = false := by rw [hAt, hSt, beq_eq_false_iff_ne]; exact hq
            have q2 : ¬ A.toList = S.toList := by rw [hAt, hSt]; exact hq
            have HQ := Lib.hid hq
            clear hA hAt hSt hq HRK HRK2
            go_wp2_with fail
            refine (HRK3.out _).mono ?_
            rintro e w1 ⟨rfl, hB1⟩
            have HB1 := Lib.hid (hB'.trans (hB1.mono hB'.size))
            clear hB1
            go_wp2
            go_roundw
            case rel =>
              refine ⟨k + 1, by omega, by simp, fun j hj => ?_, HB1.out⟩
              rcases (by omega : j < k ∨ j = k) with h | rfl
              · exact HNO.out j h
              · exact HQ.out
            case measure => (simp [RowKit.intOf]) <;> omega
        · obtain rfl : k = 301 := by omega
          have hnone : backR l = none := by
            unfold backR
            rw [HF.out]
            simp only
            rw [if_neg (fun h => by
              obtain ⟨j, hj, e⟩ := hasW_iff.1 h
              exact HNO.out j (by omega) e)]
          have HN := Lib.hid hnone
          clear hnone
          go_wp2
          go_ret2
          exact ⟨by rw [HN.out]; rfl, hB'⟩
    · have t1 : (2 : Int) < (R.size : Int) := by omega
      have t2 : 2 < R.size := by omega
      obtain ⟨H2, hH2⟩ : ∃ H2 : ByteArray, H2 = ⟨(rest.take 2).toArray⟩ := ⟨_, rfl⟩
      have hsl2 := slice_to R 2 (by omega) H2 (by rw [hH2, hRl])
      have hsl2' : ∀ W, (Instr.slice 9 (.string R) none (some (.int .i64 2)) none).run Tryd.prog W = .ok (.string H2) W := fun W => hsl2 W
      have hHt : H2.toList = rest.take 2 := by rw [Lib.toList_data, hH2]
      by_cases h3 : [92, 10] <+: rest
      · have hpre : rest.take 2 = [92, 10] := by
          obtain ⟨r, rfl⟩ := h3; rfl
        have q1 : (H2.toList == [92, 10]) = true := by rw [hHt, hpre]; rfl
        have q2 : H2.toList = [92, 10] := by rw [hHt, hpre]
        obtain ⟨R2, hR2⟩ : ∃ R2 : ByteArray, R2 = ⟨(rest.drop 2).toArray⟩ := ⟨_, rfl⟩
        have hsl3 := slice_from R 2 (by omega) R2 (by rw [hR2, hRl])
        have hsl3' : ∀ W, (Instr.slice 9 (.string R) (some (.int .i64 2)) none none).run Tryd.prog W = .ok (.string R2) W := fun W => hsl3 W
        rw [rdr_fold _ rest rfl h2 h3] at hrd
        have HRD := Lib.hid hrd
        have HR2 := Lib.hid hR2
        have HLEN := Lib.hid hlen
        clear hsl2 hsl3 hrd hRl hRt hRs hH2 hHt hpre h3 hR2 hts hlen
        go_wp2
        go_roundw
        case rel =>
          refine ⟨out, rest.drop 2, t, R2, rfl, HT.out, rfl, HR2.out, ?_, HRD.out, hB⟩
          have := HLEN.out; rw [List.length_drop]; omega
        case measure =>
          simp only [Array.getD]
          have : R2.size = rest.length - 2 := by rw [HR2.out, ba_size, List.length_drop]
          have := HRS.out
          simp
          omega
      · have hpre : rest.take 2 ≠ [92, 10] := fun h => h3 ⟨rest.drop 2, by rw [← h, List.take_append_drop]⟩
        have q1 : (H2.toList == [92, 10]) = false := by rw [hHt, beq_eq_false_iff_ne]; exact hpre
        have q2 : ¬ H2.toList = [92, 10] := by rw [hHt]; exact hpre
        rw [rdr_map _ rest rfl h2 h3] at hrd
        have HRD := Lib.hid hrd
        have HRLH := Lib.hid hRl
        have HRT := Lib.hid hRt
        have HLEN := Lib.hid hlen
        have hob : t.size ≤ 5000 := by omega
        clear hsl2 hrd hRl hRt hRs hH2 hHt hpre h3 hts hlen
        go_wp2
        go_loopw [4, 6, 7] (fun o z i wr' => ∃ m : Nat, m ≤ 256 ∧ i = .int .i64 m ∧ o = .string t ∧ z = .int .i64 0 ∧ (∀ j, j < m → ¬ pcn j <+: rest) ∧ Below w.heap.size w wr') (fun _ _ i _ => 256 - (RowKit.intOf i).toNat)
        case atStart => exact ⟨0, by omega, rfl, rfl, rfl, fun j hj => absurd hj (by omega), hB⟩
        case round =>
          obtain ⟨m, hm, rfl, rfl, rfl, hno, hB'⟩ := hrel
          have HNO := Lib.hid hno
          have lB' := hB'.size
          clear hno
          by_cases hlt : m < 256
          · have hw8 := u8w m hlt
            have hmb : (UInt8.ofNat m).toNat = m := by rw [UInt8.toNat_ofNat']; omega
            obtain ⟨P, hP⟩ : ∃ P : ByteArray, P = ⟨(pcn m).toArray⟩ := ⟨_, rfl⟩
            have hPC := HPC.out (UInt8.ofNat m)
            rw [hmb] at hPC
            rw [show (⟨(pc (UInt8.ofNat m)).toArray⟩ : ByteArray) = P from hP.symm] at hPC
            have HPP := Lib.hid hPC
            have hPs : P.size = (pcn m).length := by rw [hP, ba_size]
            have hPt : P.toList = pcn m := by rw [Lib.toList_data, hP]
            have hpl := pc_len (UInt8.ofNat m)
            rw [show pc (UInt8.ofNat m) = pcn m from rfl] at hpl
            by_cases hle : P.size ≤ R.size
            · have hle1 : (P.size : Int) ≤ (R.size : Int) := by omega
              obtain ⟨Q, hQ⟩ : ∃ Q : ByteArray, Q = ⟨(rest.take P.size).toArray⟩ := ⟨_, rfl⟩
              have hQt : Q.toList = rest.take P.size := by rw [Lib.toList_data, hQ]
              have hslq := slice_to R P.size hle Q (by rw [hQ, HRLH.out])
              by_cases hpre : pcn m <+: rest
              · obtain ⟨r, hr⟩ := hpre
                have hQP : Q.toList = P.toList := by rw [hQt, hPt, ← hr, hPs, List.take_left]
                have q3 : (Q.toList == P.toList) = true := by rw [beq_iff_eq]; exact hQP
                have hcv := fun w => conv_new w [UInt8.ofNat m] 1 rfl #[.int .u8 (m : Int)] (by simp [bval]; omega)
                obtain ⟨C, hC⟩ : ∃ C : ByteArray, C = ⟨#[UInt8.ofNat m]⟩ := ⟨_, rfl⟩
                have hCs : C.size = 1 := by rw [hC]; rfl
                rw [show (⟨([UInt8.ofNat m] : List UInt8).toArray⟩ : ByteArray) = C from hC.symm] at hcv
                have hb1 : (9223372036854775807 < t.size + C.size) = False := by simp; omega
                have hb2 : (9223372036854775807 < (t.size : Int) + (C.size : Int)) = False := by simp; omega
                obtain ⟨R2, hR2⟩ : ∃ R2 : ByteArray, R2 = ⟨r.toArray⟩ := ⟨_, rfl⟩
                have hsl4 := slice_from R P.size hle R2 (by rw [hR2, HRLH.out, ← hr, hPs, List.drop_left])
                have hn0 : ((P.size : Int) == 0) = false := by rw [beq_eq_false_iff_ne]; omega
                have hfs : fst rest = some (UInt8.ofNat m) := fst_iff.2 ⟨r, hr⟩
                have HC := Lib.hid hC
                have HR2 := Lib.hid hR2
                have hrd2 := HRD.out
                rw [hfs] at hrd2
                simp only at hrd2
                rw [show (rest.drop (pc (UInt8.ofNat m)).length) = r by rw [← hr]; exact List.drop_left] at hrd2
                have HRD2 := Lib.hid hrd2
                have hrl := congrArg List.length hr
                rw [List.length_append] at hrl
                have HRLL := Lib.hid hrl
                have HPL := Lib.hid hpl
                clear hPC hP hPs hPt hQ hQt hQP hC hCs hR2 hfs hrd2 hrl hr hpl hmb HRD
                go_wp2_with fail
                refine (HPP.out _).mono ?_
                rintro e w1 ⟨rfl, hB1⟩
                have HB1 := Lib.hid (hB'.trans (hB1.mono lB'))
                clear hB1
                go_wp2
                go_roundw
                case rel =>
                  refine ⟨out ++ [UInt8.ofNat m], r, _, R2, rfl, ?_, rfl, HR2.out, ?_, ?_, HB1.out.alloc HB1.out.size _⟩
                  · rw [HT.out, HC.out]
                    exact ba_app out [UInt8.ofNat m]
                  · have := HLEN.out; have := HRLL.out; have := HPL.out; simp; omega
                  · rw [HRD2.out]
                    cases rdr (r.length + 1) r <;> simp
                case measure =>
                  have h1 : R2.size = r.length := by rw [HR2.out, ba_size]
                  have := HRS.out
                  have := HRLL.out
                  have := HPL.out
                  simp
                  omega
              · have q3 : (Q.toList == P.toList) = false := by
                  rw [beq_eq_false_iff_ne, hQt, hPt, hPs]
                  intro h
                  refine hpre ⟨rest.drop (pcn m).length, ?_⟩
                  conv => lhs; rw [← h]
                  rw [show ((pcn m).length) = (pcn m).length from rfl]
                  have h2 := List.take_append_drop (pcn m).length rest
                  rw [h] at h2 ⊢
                  exact h2
                have q4 : ¬ Q.toList = P.toList := by rw [beq_eq_false_iff_ne] at q3; exact q3
                have HPRE := Lib.hid hpre
                clear hPC hP hPs hPt hQ hQt hpl hmb hpre
                go_wp2_with fail
                refine (HPP.out _).mono ?_
                rintro e w1 ⟨rfl, hB1⟩
                have HB1 := Lib.hid (hB'.trans (hB1.mono lB'))
                clear hB1
                go_wp2
                go_roundw
                case rel =>
                  refine ⟨m + 1, by omega, by simp, rfl, rfl, fun j hj => ?_, HB1.out⟩
                  rcases (by omega : j < m ∨ j = m) with h | rfl
                  · exact HNO.out j h
                  · exact HPRE.out
                case measure => (simp [RowKit.intOf]) <;> omega
            · have hle1 : ¬ (P.size : Int) ≤ (R.size : Int) := by omega
              have hpre : ¬ pcn m <+: rest := fun ⟨r, hr⟩ => by
                have := congrArg List.length hr
                rw [List.length_append] at this
                have := HRS.out
                omega
              have HPRE := Lib.hid hpre
              clear hPC hP hPs hPt hpl hmb hpre
              go_wp2_with fail
              refine (HPP.out _).mono ?_
              rintro e w1 ⟨rfl, hB1⟩
              have HB1 := Lib.hid (hB'.trans (hB1.mono lB'))
              clear hB1
              go_wp2
              go_roundw
              case rel =>
                refine ⟨m + 1, by omega, by simp, rfl, rfl, fun j hj => ?_, HB1.out⟩
                rcases (by omega : j < m ∨ j = m) with h | rfl
                · exact HNO.out j h
                · exact HPRE.out
              case measure => (simp [RowKit.intOf]) <;> omega
          · obtain rfl : m = 256 := by omega
            have hfn : fst rest = none := by
              cases hf : fst rest with
              | none => rfl
              | some b =>
                have := HNO.out b.toNat b.toNat_lt
                rw [pcn_u8] at this
                exact absurd (fst_some hf) this
            have hnone : backR l = none := by
              unfold backR
              rw [HRD.out, hfn]
              rfl
            have HN := Lib.hid hnone
            clear hnone hfn HRD
            go_wp2
            go_ret2
            exact ⟨by rw [HN.out]; rfl, hB'⟩

end Go.Proofs.YthnadcmejaciaaaDoor
