/- Addresses and ranges read; Parse. -/
import Derived.Test.YtaamhjjdhebjfaaGreatDoorAdL
import Derived.Laws.DeepStrings4
namespace Go.Proofs.YtaamhjjdhebjfaaGreatDoor
open Go.RowKit Go.Lib
set_option linter.unusedVariables false
set_option linter.unusedSimpArgs false

theorem ba_eq {S : ByteArray} {l : List UInt8} (h : S.data.toList = l) : S = ⟨l.toArray⟩ := by subst h; exact (Lib.mk_data S).symm
theorem ext_cut (S : ByteArray) (a b : Nat) : S.extract a b = ⟨((S.data.toList.drop a).take (b - a)).toArray⟩ := ba_eq (by rw [← Lib.toList_data, Lib.extract_toList])
theorem size_dl (S : ByteArray) : S.data.toList.length = S.size := (Lib.size_eq S).symm
theorem cut_c (S : ByteArray) (c : UInt8) (hs : S.size ≤ 100000) (w : World) (hf : Fit6 w) :
    Calls Tryz.prog 29 #[.string S, .string ⟨#[c]⟩] w fun e w' => e = .returned (.tuple #[.string ⟨(cut S.data.toList [c]).1.toArray⟩, .string ⟨(cut S.data.toList [c]).2.1.toArray⟩, .bool (cut S.data.toList [c]).2.2]) ∧ Below w.heap.size w w' := by
  obtain ⟨m, hm⟩ := hf.max
  refine (Tryz.strings_Cut S ⟨#[c]⟩ m w (by omega) hm).mono ?_
  rintro e w' ⟨rfl, n, rfl⟩
  exact ⟨rfl, below_drewN (Below.refl _ _) n⟩
theorem cut_len (l : List UInt8) (c : UInt8) : (cut l [c]).1.length ≤ l.length ∧ (cut l [c]).2.1.length ≤ l.length := by
  unfold cut
  split
  · simp only [List.length_take, List.length_drop]; omega
  · simp
theorem trim_len (l : List UInt8) (c : UInt8) : (trimB l c).length ≤ l.length := by
  unfold trimB trimLeftB trimRightB
  have h1 := (List.dropWhile_suffix (l := (List.dropWhile (· == c) l.reverse).reverse) (· == c)).length_le
  have h2 := (List.dropWhile_suffix (l := l.reverse) (· == c)).length_le
  simp only [List.length_reverse] at h1 h2 ⊢
  omega
theorem slice1 (S : ByteArray) (h1 : 1 ≤ S.size) (w : World) : (Instr.slice 9 (.string S) (some (.int .i64 1)) none none).run Tryz.prog w = .ok (.string ⟨(S.data.toList.drop 1).toArray⟩) w := by
  rw [run_slice_string_l w 9 S Tryz.underlying9 .i64 1 (by omega) (by omega), ext_cut]
  rw [show (1 : Int).toNat = 1 from rfl, List.take_of_length_le (by rw [List.length_drop, size_dl]; omega)]
theorem index0 (S : ByteArray) (c : UInt8) (r : List UInt8) (h : S.data.toList = c :: r) (w : World) : (Instr.index 9 (.string S) (.int .i64 0)).run Tryz.prog w = .ok (.int .u8 (c.toNat : Int)) w := by
  rw [ba_eq h, run_index_string (P := Tryz.prog) w 9 _ .i64 0 Tryz.underlying9, dif_pos ⟨by omega, by simp [ByteArray.size]; try omega⟩]
  rfl

set_option maxRecDepth 100000 in
set_option maxHeartbeats 8000000 in
theorem readaddr_c (S : ByteArray) (hs : S.size ≤ 1000) (w : World) (hf : Fit6 w) : Calls Tryz.prog 30 #[.string S] w fun e w' => e = .returned (adv (rdA S.data.toList)) ∧ Below w.heap.size w w' := by
  have HC0 := fun w h => cut_c S 126 (by omega) w h
  have hcl := cut_len S.data.toList 126
  rw [size_dl] at hcl
  have e0 : rdA S.data.toList = (if S.data.toList = [] then ⟨0, 0, 0⟩ else if S.data.toList = [36] then ⟨2, 0, 0⟩ else if S.data.toList.head? = some 47 then ⟨4, rdNum (trimB S.data.toList 47), 0⟩ else if S.data.toList.head? = some 43 then ⟨5, rdNum (S.data.toList.drop 1), 0⟩
    else if S.data.toList.head? = some 126 then ⟨6, rdNum (S.data.toList.drop 1), 0⟩ else if (cut S.data.toList [126]).2.2 then ⟨3, rdNum (cut S.data.toList [126]).1, rdNum (cut S.data.toList [126]).2.1⟩ else ⟨1, rdNum S.data.toList, 0⟩) := rfl
  rw [e0]
  clear e0
  generalize cut S.data.toList [126] = CU at HC0 hcl ⊢
  obtain ⟨ca, cb, cf⟩ := CU
  simp only at HC0 hcl ⊢
  have HC := Lib.hid HC0
  have HR1 := Lib.hid (fun w h => readnum_c ⟨ca.toArray⟩ (by rw [ba_size]; omega) w h)
  have HR2 := Lib.hid (fun w h => readnum_c ⟨cb.toArray⟩ (by rw [ba_size]; omega) w h)
  have HR3 := Lib.hid (fun w h => readnum_c S (by omega) w h)
  have HR4 := Lib.hid (fun w h => readnum_c ⟨(S.data.toList.drop 1).toArray⟩ (by rw [ba_size, List.length_drop, size_dl]; omega) w h)
  have HR5 := Lib.hid (fun w h => readnum_c ⟨(trimB S.data.toList 47).toArray⟩ (by rw [ba_size]; have := trim_len S.data.toList 47; rw [size_dl] at this; omega) w h)
  have HT5 := Lib.hid (fun w => Tryz.strings_Trim_one S 47 (by decide) w (by omega))
  simp only at HR1 HR2 HR3 HR4 HR5
  have hB0 := (Below.refl _ w).alloc (Nat.le_refl _) (.cells #[.int .i64 0, .int .i64 0, .int .i64 0] 23)
  have HB := Lib.hid (And.intro hB0 (Three.new w 23 (.int .i64 0) (.int .i64 0) (.int .i64 0)))
  have HF := Lib.hid (hf.below hB0)
  clear HC0 hcl hB0 hf
  unfold adv
  by_cases h0 : S.data.toList = []
  · rw [if_pos h0]
    have t0 : S.toList.isEmpty = true := by rw [Lib.toList_data, h0]; rfl
    clear h0
    go_enter Tryz.func30, Tryz.ntmps30
    go_wp2_with fail
    refine (HC.out _ HF.out).mono ?_
    rintro e w1 ⟨rfl, hB⟩
    have HB1 := Lib.hid (HB.out.1.trans (hB.mono HB.out.1.size))
    have HF1 := Lib.hid (HF.out.below hB)
    have HT1 := Lib.hid (HB.out.2.beside hB)
    clear hB
    have HS := Lib.hid (HT1.out.s (.int .i64 0) (.int .i64 0) (.int .i64 0))
    have HBS := Lib.hid (Below.set3 HB1.out (b := w.heap.size) (Nat.le_refl _) (.int .i64 0) (.int .i64 0) (.int .i64 0))
    have c0 := HT1.out.c0
    have c1 := HT1.out.c1
    have c2 := HT1.out.c2
    have f0 := HT1.out.fz 0
    have f1 := HT1.out.fz 1
    have f2 := HT1.out.fz 2
    go_wp2
    refine bodyPost_ret (v := .agg #[.int .i64 0, .int .i64 0, .int .i64 0]) (by simp [results, Tryz.results30, go_sem, HS.out.c0, HS.out.c1, HS.out.c2]) rfl ⟨rfl, HBS.out⟩
  rw [if_neg h0]
  have t0 : S.toList.isEmpty = false := by
    rw [Lib.toList_data]; cases hh : S.data.toList with
    | nil => exact absurd hh h0
    | cons a b => rfl
  by_cases h1 : S.data.toList = [36]
  · rw [if_pos h1]
    have t1 : (S.toList == [36]) = true := by rw [Lib.toList_data, h1]; rfl
    clear h0 h1
    go_enter Tryz.func30, Tryz.ntmps30
    go_wp2_with fail
    refine (HC.out _ HF.out).mono ?_
    rintro e w1 ⟨rfl, hB⟩
    have HB1 := Lib.hid (HB.out.1.trans (hB.mono HB.out.1.size))
    have HF1 := Lib.hid (HF.out.below hB)
    have HT1 := Lib.hid (HB.out.2.beside hB)
    clear hB
    have HS := Lib.hid (HT1.out.s (.int .i64 2) (.int .i64 0) (.int .i64 0))
    have HBS := Lib.hid (Below.set3 HB1.out (b := w.heap.size) (Nat.le_refl _) (.int .i64 2) (.int .i64 0) (.int .i64 0))
    have c0 := HT1.out.c0
    have c1 := HT1.out.c1
    have c2 := HT1.out.c2
    have f0 := HT1.out.fz 0
    have f1 := HT1.out.fz 1
    have f2 := HT1.out.fz 2
    go_wp2
    refine bodyPost_ret (v := .agg #[.int .i64 2, .int .i64 0, .int .i64 0]) (by simp [results, Tryz.results30, go_sem, HS.out.c0, HS.out.c1, HS.out.c2]) rfl ⟨rfl, HBS.out⟩
  rw [if_neg h1]
  have t1 : (S.toList == [36]) = false := by rw [Lib.toList_data, beq_eq_false_iff_ne]; exact h1
  obtain ⟨c, r, hcr⟩ : ∃ c r, S.data.toList = c :: r := by
    cases hh : S.data.toList with
    | nil => exact absurd hh h0
    | cons a b => exact ⟨a, b, rfl⟩
  have hsz : 1 ≤ S.size := by rw [← size_dl, hcr]; simp
  have hix := fun w => index0 S c r hcr w
  have hsl := fun w => slice1 S hsz w
  have hhd : S.data.toList.head? = some c := by rw [hcr]; rfl
  rw [hhd]
  generalize S.data.toList = l at HR3 HR4 HR5 HT5 hsl ⊢
  generalize trimB l 47 = tl at HR5 HT5 ⊢
  generalize l.drop 1 = dl at HR4 hsl ⊢
  clear h0 h1 hcr hhd hsz
  by_cases c47 : c = 47
  · subst c47
    rw [if_pos rfl]
    have hix2 : ∀ w, (Instr.index 9 (.string S) (.int .i64 0)).run Tryz.prog w = .ok (.int .u8 47) w := hix
    clear hix
    go_enter Tryz.func30, Tryz.ntmps30
    go_wp2_with fail
    refine (HC.out _ HF.out).mono ?_
    rintro e w1 ⟨rfl, hB⟩
    have HB1 := Lib.hid (HB.out.1.trans (hB.mono HB.out.1.size))
    have HF1 := Lib.hid (HF.out.below hB)
    have HT1 := Lib.hid (HB.out.2.beside hB)
    clear hB
    go_wp2_with fail
    refine (HT5.out _).mono ?_
    rintro e w2 ⟨rfl, hw2⟩
    have hB : Below w1.heap.size w1 w2 := by rcases hw2 with rfl | rfl
                                             · exact Below.refl _ _
                                             · exact (Below.refl _ _).drew
    clear hw2
    have HB2 := Lib.hid (HB1.out.trans (hB.mono HB1.out.size))
    have HF2 := Lib.hid (HF1.out.below hB)
    have HT2 := Lib.hid (HT1.out.beside hB)
    clear hB HB1 HF1 HT1
    have HB1 := Lib.hid HB2.out
    have HF1 := Lib.hid HF2.out
    have HT1 := Lib.hid HT2.out
    clear HB2 HF2 HT2
    go_wp2_with fail
    refine (HR5.out _ HF1.out).mono ?_
    rintro e w3 ⟨rfl, hB⟩
    have HB2 := Lib.hid (HB1.out.trans (hB.mono HB1.out.size))
    have HF2 := Lib.hid (HF1.out.below hB)
    have HT2 := Lib.hid (HT1.out.beside hB)
    clear hB HB1 HF1 HT1
    have HB1 := Lib.hid HB2.out
    have HF1 := Lib.hid HF2.out
    have HT1 := Lib.hid HT2.out
    clear HB2 HF2 HT2
    have HS := Lib.hid (HT1.out.s (.int .i64 4) (.int .i64 (rdNum tl)) (.int .i64 0))
    have HBS := Lib.hid (Below.set3 HB1.out (b := w.heap.size) (Nat.le_refl _) (.int .i64 4) (.int .i64 (rdNum tl)) (.int .i64 0))
    have c0 := HT1.out.c0
    have c1 := HT1.out.c1
    have c2 := HT1.out.c2
    have f0 := HT1.out.fz 0
    have f1 := HT1.out.fz 1
    have f2 := HT1.out.fz 2
    go_wp2
    refine bodyPost_ret (v := .agg #[.int .i64 4, .int .i64 (rdNum tl), .int .i64 0]) (by simp [results, Tryz.results30, go_sem, HS.out.c0, HS.out.c1, HS.out.c2]) rfl ⟨rfl, HBS.out⟩
  rw [if_neg (fun h => c47 (Option.some.inj h))]
  have t47 : ((c.toNat : Int) == 47) = false := by rw [beq_eq_false_iff_ne]; intro h; exact c47 (UInt8.toNat_inj.1 (by show c.toNat = 47; omega))
  by_cases c43 : c = 43
  · subst c43
    rw [if_pos rfl]
    have hix2 : ∀ w, (Instr.index 9 (.string S) (.int .i64 0)).run Tryz.prog w = .ok (.int .u8 43) w := hix
    clear hix t47
    go_enter Tryz.func30, Tryz.ntmps30
    go_wp2_with fail
    refine (HC.out _ HF.out).mono ?_
    rintro e w1 ⟨rfl, hB⟩
    have HB1 := Lib.hid (HB.out.1.trans (hB.mono HB.out.1.size))
    have HF1 := Lib.hid (HF.out.below hB)
    have HT1 := Lib.hid (HB.out.2.beside hB)
    clear hB
    go_wp2_with fail
    refine (HR4.out _ HF1.out).mono ?_
    rintro e w3 ⟨rfl, hB⟩
    have HB2 := Lib.hid (HB1.out.trans (hB.mono HB1.out.size))
    have HF2 := Lib.hid (HF1.out.below hB)
    have HT2 := Lib.hid (HT1.out.beside hB)
    clear hB HB1 HF1 HT1
    have HB1 := Lib.hid HB2.out
    have HF1 := Lib.hid HF2.out
    have HT1 := Lib.hid HT2.out
    clear HB2 HF2 HT2
    have HS := Lib.hid (HT1.out.s (.int .i64 5) (.int .i64 (rdNum dl)) (.int .i64 0))
    have HBS := Lib.hid (Below.set3 HB1.out (b := w.heap.size) (Nat.le_refl _) (.int .i64 5) (.int .i64 (rdNum dl)) (.int .i64 0))
    have c0 := HT1.out.c0
    have c1 := HT1.out.c1
    have c2 := HT1.out.c2
    have f0 := HT1.out.fz 0
    have f1 := HT1.out.fz 1
    have f2 := HT1.out.fz 2
    go_wp2
    refine bodyPost_ret (v := .agg #[.int .i64 5, .int .i64 (rdNum dl), .int .i64 0]) (by simp [results, Tryz.results30, go_sem, HS.out.c0, HS.out.c1, HS.out.c2]) rfl ⟨rfl, HBS.out⟩
  rw [if_neg (fun h => c43 (Option.some.inj h))]
  have t43 : ((c.toNat : Int) == 43) = false := by rw [beq_eq_false_iff_ne]; intro h; exact c43 (UInt8.toNat_inj.1 (by show c.toNat = 43; omega))
  by_cases c126 : c = 126
  · subst c126
    rw [if_pos rfl]
    have hix2 : ∀ w, (Instr.index 9 (.string S) (.int .i64 0)).run Tryz.prog w = .ok (.int .u8 126) w := hix
    clear hix t47 t43
    go_enter Tryz.func30, Tryz.ntmps30
    go_wp2_with fail
    refine (HC.out _ HF.out).mono ?_
    rintro e w1 ⟨rfl, hB⟩
    have HB1 := Lib.hid (HB.out.1.trans (hB.mono HB.out.1.size))
    have HF1 := Lib.hid (HF.out.below hB)
    have HT1 := Lib.hid (HB.out.2.beside hB)
    clear hB
    go_wp2_with fail
    refine (HR4.out _ HF1.out).mono ?_
    rintro e w3 ⟨rfl, hB⟩
    have HB2 := Lib.hid (HB1.out.trans (hB.mono HB1.out.size))
    have HF2 := Lib.hid (HF1.out.below hB)
    have HT2 := Lib.hid (HT1.out.beside hB)
    clear hB HB1 HF1 HT1
    have HB1 := Lib.hid HB2.out
    have HF1 := Lib.hid HF2.out
    have HT1 := Lib.hid HT2.out
    clear HB2 HF2 HT2
    have HS := Lib.hid (HT1.out.s (.int .i64 6) (.int .i64 (rdNum dl)) (.int .i64 0))
    have HBS := Lib.hid (Below.set3 HB1.out (b := w.heap.size) (Nat.le_refl _) (.int .i64 6) (.int .i64 (rdNum dl)) (.int .i64 0))
    have c0 := HT1.out.c0
    have c1 := HT1.out.c1
    have c2 := HT1.out.c2
    have f0 := HT1.out.fz 0
    have f1 := HT1.out.fz 1
    have f2 := HT1.out.fz 2
    go_wp2
    refine bodyPost_ret (v := .agg #[.int .i64 6, .int .i64 (rdNum dl), .int .i64 0]) (by simp [results, Tryz.results30, go_sem, HS.out.c0, HS.out.c1, HS.out.c2]) rfl ⟨rfl, HBS.out⟩
  rw [if_neg (fun h => c126 (Option.some.inj h))]
  have t126 : ((c.toNat : Int) == 126) = false := by rw [beq_eq_false_iff_ne]; intro h; exact c126 (UInt8.toNat_inj.1 (by show c.toNat = 126; omega))
  clear c47 c43 c126
  cases cf
  · simp only [Bool.false_eq_true, if_false]
    go_enter Tryz.func30, Tryz.ntmps30
    go_wp2_with fail
    refine (HC.out _ HF.out).mono ?_
    rintro e w1 ⟨rfl, hB⟩
    have HB1 := Lib.hid (HB.out.1.trans (hB.mono HB.out.1.size))
    have HF1 := Lib.hid (HF.out.below hB)
    have HT1 := Lib.hid (HB.out.2.beside hB)
    clear hB
    go_wp2_with fail
    refine (HR3.out _ HF1.out).mono ?_
    rintro e w3 ⟨rfl, hB⟩
    have HB2 := Lib.hid (HB1.out.trans (hB.mono HB1.out.size))
    have HF2 := Lib.hid (HF1.out.below hB)
    have HT2 := Lib.hid (HT1.out.beside hB)
    clear hB HB1 HF1 HT1
    have HB1 := Lib.hid HB2.out
    have HF1 := Lib.hid HF2.out
    have HT1 := Lib.hid HT2.out
    clear HB2 HF2 HT2
    have HS := Lib.hid (HT1.out.s (.int .i64 1) (.int .i64 (rdNum l)) (.int .i64 0))
    have HBS := Lib.hid (Below.set3 HB1.out (b := w.heap.size) (Nat.le_refl _) (.int .i64 1) (.int .i64 (rdNum l)) (.int .i64 0))
    have c0 := HT1.out.c0
    have c1 := HT1.out.c1
    have c2 := HT1.out.c2
    have f0 := HT1.out.fz 0
    have f1 := HT1.out.fz 1
    have f2 := HT1.out.fz 2
    go_wp2
    refine bodyPost_ret (v := .agg #[.int .i64 1, .int .i64 (rdNum l), .int .i64 0]) (by simp [results, Tryz.results30, go_sem, HS.out.c0, HS.out.c1, HS.out.c2]) rfl ⟨rfl, HBS.out⟩
  · simp only [if_true]
    go_enter Tryz.func30, Tryz.ntmps30
    go_wp2_with fail
    refine (HC.out _ HF.out).mono ?_
    rintro e w1 ⟨rfl, hB⟩
    have HB1 := Lib.hid (HB.out.1.trans (hB.mono HB.out.1.size))
    have HF1 := Lib.hid (HF.out.below hB)
    have HT1 := Lib.hid (HB.out.2.beside hB)
    clear hB
    go_wp2_with fail
    refine (HR1.out _ HF1.out).mono ?_
    rintro e w3 ⟨rfl, hB⟩
    have HB2 := Lib.hid (HB1.out.trans (hB.mono HB1.out.size))
    have HF2 := Lib.hid (HF1.out.below hB)
    have HT2 := Lib.hid (HT1.out.beside hB)
    clear hB HB1 HF1 HT1
    have HB1 := Lib.hid HB2.out
    have HF1 := Lib.hid HF2.out
    have HT1 := Lib.hid HT2.out
    clear HB2 HF2 HT2
    go_wp2_with fail
    refine (HR2.out _ HF1.out).mono ?_
    rintro e w4 ⟨rfl, hB⟩
    have HB2 := Lib.hid (HB1.out.trans (hB.mono HB1.out.size))
    have HF2 := Lib.hid (HF1.out.below hB)
    have HT2 := Lib.hid (HT1.out.beside hB)
    clear hB HB1 HF1 HT1
    have HB1 := Lib.hid HB2.out
    have HF1 := Lib.hid HF2.out
    have HT1 := Lib.hid HT2.out
    clear HB2 HF2 HT2
    have HS := Lib.hid (HT1.out.s (.int .i64 3) (.int .i64 (rdNum ca)) (.int .i64 (rdNum cb)))
    have HBS := Lib.hid (Below.set3 HB1.out (b := w.heap.size) (Nat.le_refl _) (.int .i64 3) (.int .i64 (rdNum ca)) (.int .i64 (rdNum cb)))
    have c0 := HT1.out.c0
    have c1 := HT1.out.c1
    have c2 := HT1.out.c2
    have f0 := HT1.out.fz 0
    have f1 := HT1.out.fz 1
    have f2 := HT1.out.fz 2
    go_wp2
    refine bodyPost_ret (v := .agg #[.int .i64 3, .int .i64 (rdNum ca), .int .i64 (rdNum cb)]) (by simp [results, Tryz.results30, go_sem, HS.out.c0, HS.out.c1, HS.out.c2]) rfl ⟨rfl, HBS.out⟩

end Go.Proofs.YtaamhjjdhebjfaaGreatDoor
