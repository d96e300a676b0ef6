/- piece: Give, Untext; shown. -/
import Derived.Test.YtagjoebggghknaaDoorPcI
namespace Go.Proofs.YtagjoebggghknaaDoor
open Go.RowKit
set_option linter.unusedVariables false
set_option linter.unusedSimpArgs false

def rpl (c : UInt8) (new s : List UInt8) : List UInt8 := s.flatMap fun b => if b = c then new else [b]
theorem replaceK_one (c : UInt8) (new : List UInt8) : ∀ s : List UInt8, Lib.replaceK [c] new (Lib.count s [c]) s = rpl c new s
  | [] => by
    rw [Lib.count_one]; simp [Lib.replaceK, rpl]
  | b :: l => by
    have ih := replaceK_one c new l
    by_cases h : b = c
    · subst h
      have hi : Lib.index (b :: l) [b] = ((0 : Nat) : Int) := by rw [Lib.index_one]; simp [Lib.indexByte]
      rw [Lib.count_cons_eq, Nat.add_comm 1, Lib.replaceK_hit _ _ _ _ 0 hi]
      simp only [List.take_zero, List.length_cons, List.length_nil, Nat.zero_add, List.drop_succ_cons, List.drop_zero, List.nil_append]
      rw [ih]
      simp [rpl]
    · have hb : (b == c) = false := by simpa using h
      rw [Lib.count_cons_ne b c l h]
      have er : rpl c new (b :: l) = b :: rpl c new l := by simp [rpl, h]
      rw [er, ← ih]
      by_cases hk : Lib.count l [c] = 0
      · rw [hk]; rfl
      · obtain ⟨i, hi⟩ := Lib.index_of_count (s := l) (old := [c]) (by omega)
        obtain ⟨k, hk2⟩ : ∃ k, Lib.count l [c] = k + 1 := ⟨Lib.count l [c] - 1, by omega⟩
        have hi2 : Lib.index (b :: l) [c] = ((i + 1 : Nat) : Int) := by
          rw [Lib.index_one] at hi ⊢
          simp only [Lib.indexByte, hb, hi, Bool.false_eq_true, if_false]
          rw [if_neg (by simp)]
          simp
        rw [hk2, Lib.replaceK_hit _ _ _ _ i hi, Lib.replaceK_hit _ _ _ _ (i + 1) hi2]
        simp [Nat.add_right_comm]
theorem replaceAll_one (c : UInt8) (new s : List UInt8) (h : [c] ≠ new) : Lib.replaceAll s [c] new = rpl c new s := by
  have hb : ([c] == new) = false := by simpa using h
  have hn : Lib.replaceNum s [c] (-1) = Lib.count s [c] := by unfold Lib.replaceNum; simp
  unfold Lib.replaceAll Lib.replace
  rw [hb, hn, replaceK_one]; simp

theorem rpl_D (c : UInt8) (s : List UInt8) : rpl c [92, c] s = rplD c s := rfl
def MaxL (w : World) : Prop := ∃ m, w.cell? ⟨2, 0, none⟩ = some (.int .i64 m)
theorem MaxL.below {w w' : World} (h : MaxL w) (hB : Below w.heap.size w w') : MaxL w' := by
  obtain ⟨m, h1⟩ := h
  exact ⟨m, cell_keep hB h1⟩
theorem MaxL.beside {w w' : World} {B : Nat} (h : MaxL w) (hB : Below B w w') (hb : w.heap.size ≤ B) : MaxL w' := h.below (hB.mono hb)
theorem countB_one (S : ByteArray) (c : UInt8) : Lib.countB S ⟨#[c]⟩ ≤ S.size := Lib.countB_le ⟨#[c]⟩ (by simp [ByteArray.size]) S.size S (Nat.le_refl _)
theorem rep_c (S D N : ByteArray) (c : UInt8) (hD : D = ⟨#[c]⟩) (hN : N = ⟨#[92, c]⟩) (hs : S.size ≤ 1000000) (w : World) (hm : MaxL w) :
    Calls Tryd.prog 31 #[.string S, .string D, .string N] w fun e w' => e = .returned (.string ⟨(rplD c S.data.toList).toArray⟩) ∧ Below w.heap.size w w' := by
  obtain ⟨m, h1⟩ := hm
  have hc := countB_one S c
  subst hD hN
  have := Tryd.strings_ReplaceAll S ⟨#[c]⟩ ⟨#[92, c]⟩ m w (by omega) h1 (by simp [ByteArray.size]) (by rw [show (⟨#[92, c]⟩ : ByteArray).size = 2 from rfl]; omega)
  rw [replaceAll_one c _ _ (by simp)] at this
  exact this

set_option maxRecDepth 100000 in
set_option maxHeartbeats 8000000 in
theorem give_c (S : ByteArray) (d : UInt8) (hs : S.size ≤ 10000) (w : World) (hm : MaxL w) :
    Calls Tryd.prog 12 #[.string S, .int .u8 d.toNat] w fun e w' => e = .returned (gvV (gvD d S.data.toList)) ∧ Below w.heap.size w w' := by
  obtain ⟨l, hl⟩ : ∃ l, l = S.data.toList := ⟨_, rfl⟩
  have hll : l.length = S.size := by rw [hl]; simp
  rw [← hl]
  obtain ⟨V, hV⟩ : ∃ V, V = gvV (gvD d l) := ⟨_, rfl⟩
  rw [← hV]
  have hgl := rplD_len d l
  obtain ⟨D, hD⟩ : ∃ D : ByteArray, D = ⟨[d].toArray⟩ := ⟨_, rfl⟩
  have hDs : D.size = 1 := by rw [hD]; rfl
  have HT := Lib.hid (textof_c w.heap.size 1 [d] rfl (w.alloc (.cells #[.int .u8 d.toNat] 5)) (one_cell d w) D hD)
  have hB1 : Below w.heap.size w (w.alloc (.cells #[.int .u8 d.toNat] 5)) := (Below.refl _ w).alloc (Nat.le_refl _) _
  obtain ⟨G, hG⟩ : ∃ G : ByteArray, G = ⟨(rplD d l).toArray⟩ := ⟨_, rfl⟩
  have hGs : G.size ≤ 2 * S.size := by rw [hG, ba_size, ← hll]; exact hgl
  have hrep := fun w hm => rep_c S D (⟨#[92]⟩ ++ D) d hD (by rw [hD]; rfl) (by omega) w hm
  rw [← hl, ← hG] at hrep
  have HREP := Lib.hid hrep
  have HTK := take_c (G ++ D) 0 d (by simp; omega)
  rw [tkAt_0, show (G ++ D).data.toList = rplD d l ++ [d] by rw [hG, hD]; simp] at HTK
  have hb1 : (9223372036854775807 < 1 + D.size) = False := by simp; omega
  have hb2 : (9223372036854775807 < 1 + (D.size : Int)) = False := by simp; omega
  have hb3 : (9223372036854775807 < G.size + D.size) = False := by simp; omega
  have hb4 : (9223372036854775807 < (G.size : Int) + (D.size : Int)) = False := by simp; omega
  have hg := gv_prog d l
  have HM1 := Lib.hid (hm.below hB1)
  have HB1 := Lib.hid hB1
  have HL := Lib.hid hl
  have HG := Lib.hid hG
  have HV := Lib.hid hV
  clear hrep hD hDs hG hGs hgl hm hB1 hl hll hV
  cases hq : tkD d (rplD d l ++ [d]) with
  | none =>
    rw [hq] at HTK hg
    have HTX : ∀ w, Calls Tryd.prog 10 #[.string (G ++ D), .int .i64 0, .int .u8 d.toNat] w fun e w' => e = .returned (.tuple #[.string ⟨#[]⟩, .int .i64 0, .int .i64 120]) ∧ Below w.heap.size w w' := HTK
    have HXX := Lib.hid HTX
    have hv : V = .tuple #[.string ⟨#[]⟩, .int .i64 1] := by rw [HV.out, hg]; rfl
    have HVV := Lib.hid hv
    clear HTK HTX hv hg hq
    go_enter Tryd.func12, Tryd.ntmps12
    go_wp2_with fail
    refine HT.out.mono ?_
    rintro e w1 ⟨rfl, rfl⟩
    go_wp2_with fail
    refine (HREP.out _ HM1.out).mono ?_
    rintro e w2 ⟨rfl, hB2⟩
    have hBB := HB1.out.trans (hB2.mono HB1.out.size)
    go_wp2_with fail
    refine (HXX.out _).mono ?_
    rintro e w3 ⟨rfl, hB3⟩
    have hBC := hBB.trans (hB3.mono hBB.size)
    go_wp2
    go_ret2
    exact ⟨by rw [HVV.out]; rfl, hBC⟩
  | some y =>
    obtain ⟨x, n⟩ := y
    rw [hq] at HTK hg
    simp only at hg
    obtain ⟨Y, hY⟩ : ∃ Y : ByteArray, Y = ⟨x.toArray⟩ := ⟨_, rfl⟩
    have HTX : ∀ w, Calls Tryd.prog 10 #[.string (G ++ D), .int .i64 0, .int .u8 d.toNat] w fun e w' => e = .returned (.tuple #[.string Y, .int .i64 (n : Int), .int .i64 0]) ∧ Below w.heap.size w w' := fun w => by
      have := HTK w
      simp only [tkV, Nat.zero_add] at this
      rw [hY]; exact this
    have HXX := Lib.hid HTX
    by_cases hxl : x = l
    · obtain ⟨p1, p2, p3⟩ := str_eq_yes Y l S HL.out (by rw [hY, hxl])
      have hv : V = .tuple #[.string G, .int .i64 0] := by rw [HV.out, hg, if_pos hxl, HG.out]; rfl
      have HVV := Lib.hid hv
      clear HTK HTX hv hg hq hY hxl
      go_enter Tryd.func12, Tryd.ntmps12
      go_wp2_with fail
      refine HT.out.mono ?_
      rintro e w1 ⟨rfl, rfl⟩
      go_wp2_with fail
      refine (HREP.out _ HM1.out).mono ?_
      rintro e w2 ⟨rfl, hB2⟩
      have hBB := HB1.out.trans (hB2.mono HB1.out.size)
      go_wp2_with fail
      refine (HXX.out _).mono ?_
      rintro e w3 ⟨rfl, hB3⟩
      have hBC := hBB.trans (hB3.mono hBB.size)
      go_wp2
      go_ret2
      exact ⟨by rw [HVV.out]; rfl, hBC⟩
    · obtain ⟨p1, p2, p3⟩ := str_eq_no Y x l S HL.out hY hxl
      have hv : V = .tuple #[.string ⟨#[]⟩, .int .i64 1] := by rw [HV.out, hg, if_neg hxl]; rfl
      have HVV := Lib.hid hv
      clear HTK HTX hv hg hq hY hxl
      go_enter Tryd.func12, Tryd.ntmps12
      go_wp2_with fail
      refine HT.out.mono ?_
      rintro e w1 ⟨rfl, rfl⟩
      go_wp2_with fail
      refine (HREP.out _ HM1.out).mono ?_
      rintro e w2 ⟨rfl, hB2⟩
      have hBB := HB1.out.trans (hB2.mono HB1.out.size)
      go_wp2_with fail
      refine (HXX.out _).mono ?_
      rintro e w3 ⟨rfl, hB3⟩
      have hBC := hBB.trans (hB3.mono hBB.size)
      go_wp2
      go_ret2
      exact ⟨by rw [HVV.out]; rfl, hBC⟩

theorem suf_one (l : List UInt8) : Lib.hasSuffix l [10] = decide (l.getLast? = some 10) ∧ (l.getLast? = some 10 → Lib.trimSuffix l [10] = l.dropLast) := by
  have h1 : Lib.hasSuffix l [10] = decide (l.getLast? = some 10) := by
    unfold Lib.hasSuffix
    rw [Bool.eq_iff_iff, List.isSuffixOf_iff_suffix, decide_eq_true_iff]
    constructor
    · rintro ⟨r, rfl⟩; simp
    · intro h
      obtain ⟨r, hr⟩ := List.getLast?_eq_some_iff.1 h
      exact ⟨r, hr.symm⟩
  refine ⟨h1, fun h => ?_⟩
  unfold Lib.trimSuffix
  rw [h1, decide_eq_true h, if_pos rfl, List.dropLast_eq_take]
  rfl
def utF : List UInt8 → List UInt8
  | [] => []
  | c :: r => if isBl c = true then 92 :: c :: r else c :: r
theorem ut_tf (l : List UInt8) : utP true l = utF (utP false l) := by rw [ut_true]; cases utP false l <;> rfl
theorem ut_len2 (m : List UInt8) : (utP false m).length ≤ 2 * m.length := ut_len m false

set_option maxRecDepth 100000 in
set_option maxHeartbeats 8000000 in
theorem untext_c (S : ByteArray) (hs : S.size ≤ 10000) (w : World) (hm : MaxL w) :
    Calls Tryd.prog 22 #[.string S] w fun e w' => e = .returned (utV (utD S.data.toList)) ∧ Below w.heap.size w w' := by
  obtain ⟨l, hl⟩ : ∃ l, l = S.data.toList := ⟨_, rfl⟩
  have hll : l.length = S.size := by rw [hl]; simp
  obtain ⟨hsx1, hsx2⟩ := suf_one l
  have hcs := fun w => Tryd.strings_CutSuffix S ⟨#[10]⟩ w (by omega)
  rw [← hl, show (⟨#[10]⟩ : ByteArray).data.toList = [10] from rfl, hsx1] at hcs
  rw [← hl]
  obtain ⟨V, hV⟩ : ∃ V, V = utV (utD l) := ⟨_, rfl⟩
  rw [← hV]
  by_cases h10 : l.getLast? = some 10
  · rw [decide_eq_true h10, hsx2 h10] at hcs
    obtain ⟨m, hmm⟩ : ∃ m, m = l.dropLast := ⟨_, rfl⟩
    have hml : m.length ≤ S.size := by rw [hmm, List.length_dropLast, hll]; omega
    obtain ⟨M, hM⟩ : ∃ M : ByteArray, M = ⟨m.toArray⟩ := ⟨_, rfl⟩
    rw [← hmm, ← hM] at hcs
    have hMs : M.size ≤ S.size := by rw [hM, ba_size]; exact hml
    obtain ⟨T, hT⟩ : ∃ T : ByteArray, T = ⟨(rplD 92 m).toArray⟩ := ⟨_, rfl⟩
    have h1 := fun w hm => rep_c M ⟨#[92]⟩ ⟨#[92, 92]⟩ 92 rfl rfl (by omega) w hm
    rw [show M.data.toList = m by rw [hM], ← hT] at h1
    have hTs : T.size ≤ 2 * S.size := by rw [hT, ba_size]; have := rplD_len 92 m; omega
    obtain ⟨U, hU⟩ : ∃ U : ByteArray, U = ⟨(utP false m).toArray⟩ := ⟨_, rfl⟩
    have h2 := fun w hm => rep_c T ⟨#[10]⟩ ⟨#[92, 10]⟩ 10 rfl rfl (by omega) w hm
    rw [show T.data.toList = rplD 92 m by rw [hT], ut_two, ← hU] at h2
    have hUs : U.size ≤ 2 * S.size := by rw [hU, ba_size]; have := ut_len2 m; omega
    have hUd : U.data.toList = utP false m := by rw [hU]
    have hUl : U.toList = utP false m := by rw [Lib.toList_data]; exact hUd
    have hv : V = utV (some (utF (utP false m))) := by rw [hV, ← ut_tf]; unfold utD; rw [if_pos h10, ← hmm]
    have HCS := Lib.hid hcs
    have H1 := Lib.hid h1
    have H2 := Lib.hid h2
    have HM := Lib.hid hm
    have HBL := Lib.hid blank_c
    clear hcs h1 h2 hm hT hM hmm hml hsx1 hsx2 h10 hV hl hll
    cases hu : utP false m with
    | nil =>
      rw [hu] at hv hUl hUd
      have q1 : (U.toList == []) = true := by rw [hUl]; rfl
      have q3 : U.isEmpty = true := by rw [ByteArray.isEmpty]; simp [hU, hu, ByteArray.size]
      have q4 : (U.toList != []) = false := by rw [hUl]; rfl
      have hv2 : V = .tuple #[.string U, .int .i64 0] := by rw [hv, hU, hu]; rfl
      have HVV := Lib.hid hv2
      have hU0 := hUl
      clear hv hv2 hU hUd hu hUl
      go_enter Tryd.func22, Tryd.ntmps22
      go_wp2_with fail
      refine (HCS.out _).mono ?_
      rintro e w1 ⟨rfl, rfl⟩
      go_wp2_with fail
      refine (H1.out _ HM.out).mono ?_
      rintro e w2 ⟨rfl, hB2⟩
      have hm2 := HM.out.below hB2
      go_wp2_with fail
      refine (H2.out _ hm2).mono ?_
      rintro e w3 ⟨rfl, hB3⟩
      have hBC := hB2.trans (hB3.mono hB2.size)
      go_wp2
      go_ret2
      exact ⟨by rw [HVV.out]; rfl, hBC⟩
    | cons c r =>
      rw [hu] at hv hUl hUd
      have q1 : (U.toList == []) = false := by rw [hUl]; rfl
      have q2 : ¬ U.toList = [] := by rw [hUl]; simp
      have hUn : U.size = r.length + 1 := by rw [hU, hu, ba_size]; rfl
      have q3 : U.isEmpty = false := by rw [ByteArray.isEmpty, beq_eq_false_iff_ne]; omega
      have q4 : (U.toList != []) = true := by rw [bne, q1]; rfl
      have hpos : 0 < U.size := by omega
      have hu0 := ba_get? U _ hUd 0 c hpos rfl
      have hb1 : (9223372036854775807 < 1 + U.size) = False := by simp; omega
      have hb2 : (9223372036854775807 < 1 + (U.size : Int)) = False := by simp; omega
      have HX := HBL.out c
      cases hb : isBl c
      · rw [hb] at HX
        have HXX := Lib.hid HX
        have hv2 : V = .tuple #[.string U, .int .i64 0] := by rw [hv, hU, hu]; simp only [utF]; rw [hb]; rfl
        have HVV := Lib.hid hv2
        clear hv hv2 hU hUd hu hUl hUn hb HX HBL
        go_enter Tryd.func22, Tryd.ntmps22
        go_wp2_with fail
        refine (HCS.out _).mono ?_
        rintro e w1 ⟨rfl, rfl⟩
        go_wp2_with fail
        refine (H1.out _ HM.out).mono ?_
        rintro e w2 ⟨rfl, hB2⟩
        have hm2 := HM.out.below hB2
        go_wp2_with fail
        refine (H2.out _ hm2).mono ?_
        rintro e w3 ⟨rfl, hB3⟩
        have hBC := hB2.trans (hB3.mono hB2.size)
        go_wp2_with fail
        refine (HXX.out _).mono ?_
        rintro e w4 ⟨rfl, rfl⟩
        go_wp2
        go_ret2
        exact ⟨by rw [HVV.out]; rfl, hBC⟩
      · rw [hb] at HX
        have HXX := Lib.hid HX
        have hv2 : V = .tuple #[.string (⟨#[92]⟩ ++ U), .int .i64 0] := by
          rw [hv]; simp only [utF]; rw [hb, if_pos rfl, hU, hu]
          exact congrArg (fun X => Value.tuple #[.string X, .int .i64 0]) (ba_app [92] (c :: r)).symm
        have HVV := Lib.hid hv2
        clear hv hv2 hU hUd hu hUl hUn hb HX HBL
        go_enter Tryd.func22, Tryd.ntmps22
        go_wp2_with fail
        refine (HCS.out _).mono ?_
        rintro e w1 ⟨rfl, rfl⟩
        go_wp2_with fail
        refine (H1.out _ HM.out).mono ?_
        rintro e w2 ⟨rfl, hB2⟩
        have hm2 := HM.out.below hB2
        go_wp2_with fail
        refine (H2.out _ hm2).mono ?_
        rintro e w3 ⟨rfl, hB3⟩
        have hBC := hB2.trans (hB3.mono hB2.size)
        go_wp2_with fail
        refine (HXX.out _).mono ?_
        rintro e w4 ⟨rfl, rfl⟩
        go_wp2
        go_ret2
        exact ⟨by rw [HVV.out]; rfl, hBC⟩
  · rw [decide_eq_false h10] at hcs
    have hv : V = .tuple #[.string ⟨#[]⟩, .int .i64 1] := by rw [hV]; unfold utD; rw [if_neg h10]; rfl
    have HVV := Lib.hid hv
    have HCS := Lib.hid hcs
    clear hv hcs h10 hsx1 hsx2 hV hl hll
    go_enter Tryd.func22, Tryd.ntmps22
    go_wp2_with fail
    refine (HCS.out _).mono ?_
    rintro e w1 ⟨rfl, rfl⟩
    go_wp2
    go_ret2
    exact ⟨by rw [HVV.out]; rfl, Below.refl _ _⟩

theorem sh1 : tkAt ⟨#[97, 92, 47, 98, 47, 99]⟩ 0 47 = .tuple #[.string ⟨#[97, 47, 98]⟩, .int .i64 5, .int .i64 0] := by
  rw [tkAt_0, show tkD 47 (⟨#[97, 92, 47, 98, 47, 99]⟩ : ByteArray).data.toList = some ([97, 47, 98], 5) by decide +kernel]; rfl
theorem sh2 : gvV (gvD 47 (⟨#[97, 47, 98]⟩ : ByteArray).data.toList) = .tuple #[.string ⟨#[97, 92, 47, 98]⟩, .int .i64 0] := by
  rw [show gvD 47 (⟨#[97, 47, 98]⟩ : ByteArray).data.toList = some [97, 92, 47, 98] by decide +kernel]; rfl
theorem txAt_0 (X : ByteArray) : txAt X 0 = txV 0 (txP X.data.toList) := by
  unfold txAt
  rw [show plc X.size 0 = 0 by unfold plc; rw [if_neg (by omega)]; rfl, List.drop_zero]
theorem sh3 : txAt ⟨#[111, 110, 101, 92, 10, 116, 119, 111, 10, 114, 101, 115, 116]⟩ 0 = .tuple #[.string ⟨#[111, 110, 101, 10, 116, 119, 111, 10]⟩, .int .i64 9, .int .i64 0] := by
  rw [txAt_0, show txP (⟨#[111, 110, 101, 92, 10, 116, 119, 111, 10, 114, 101, 115, 116]⟩ : ByteArray).data.toList = some ([111, 110, 101, 10, 116, 119, 111], 9) by decide +kernel]; rfl

set_option maxRecDepth 100000 in
set_option maxHeartbeats 8000000 in
theorem shown_c (w : World) (hm : MaxL w) :
    Calls Tryd.prog 9 #[] w fun e w' => e = .returned (.bool true) ∧ Below w.heap.size w w' := by
  have h1 := fun w => take_c ⟨#[97, 92, 47, 98, 47, 99]⟩ 0 47 (by decide) w
  have h2 := fun w hm => give_c ⟨#[97, 47, 98]⟩ 47 (by decide) w hm
  have h3 := fun w => text_c ⟨#[111, 110, 101, 92, 10, 116, 119, 111, 10, 114, 101, 115, 116]⟩ 0 (by decide) w
  rw [sh1] at h1
  rw [sh2] at h2
  rw [sh3] at h3
  have H1 := Lib.hid h1
  have H2 := Lib.hid h2
  have H3 := Lib.hid h3
  have HM := Lib.hid hm
  clear h1 h2 h3 hm
  go_enter Tryd.func9, Tryd.ntmps9
  go_wp2_with fail
  refine (H1.out _).mono ?_
  rintro e w1 ⟨rfl, hB1⟩
  have HB1 := Lib.hid hB1
  clear hB1
  go_wp2_with fail
  refine (H2.out _ (HM.out.below HB1.out)).mono ?_
  rintro e w2 ⟨rfl, hB2⟩
  have HB2 := Lib.hid (HB1.out.trans (hB2.mono HB1.out.size))
  clear hB2
  go_wp2_with fail
  refine (H3.out _).mono ?_
  rintro e w3 ⟨rfl, hB3⟩
  have HB3 := Lib.hid (HB2.out.trans (hB3.mono HB2.out.size))
  clear hB3
  go_wp2
  go_ret
  exact ⟨rfl, HB3.out⟩

end Go.Proofs.YtagjoebggghknaaDoor
