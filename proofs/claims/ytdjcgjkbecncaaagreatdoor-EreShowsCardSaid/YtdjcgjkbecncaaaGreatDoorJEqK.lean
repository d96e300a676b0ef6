/- ere: a number of times, as it is shown: the walk. -/
import Derived.Test.YtdjcgjkbecncaaaGreatDoorJEqJ
import Derived.Test.YtdjcgjkbecncaaaGreatDoorJEpB
import Derived.Test.YtdjcgjkbecncaaaGreatDoorJEqD
import Derived.Lib.SplitLaws
import Derived.Lib.ReplaceLaws
set_option linter.unusedVariables false
set_option linter.unusedSimpArgs false
set_option maxRecDepth 100000
set_option maxHeartbeats 40000000
namespace Go.Proofs.YtdjcgjkbecncaaaGreatDoor
open Go.RowKit
theorem replaceK_skip (c b : UInt8) (hb : b ≠ c) (k : Nat) (l : List UInt8) : Lib.replaceK [c] [] k (b :: l) = b :: Lib.replaceK [c] [] k l := by
 cases k with
 | zero => rfl
 | succ k =>
  have hp : ([c] : List UInt8).isPrefixOf (b :: l) = false := by
   simp [List.isPrefixOf]
   exact fun e => hb e.symm
  have hi : Lib.index (b :: l) [c] = if Lib.index l [c] == -1 then -1 else Lib.index l [c] + 1 := by
   rw [Lib.index, if_neg (by rw [hp]; decide)]
  have hge := Lib.index_ge l [c]
  rw [Lib.replaceK, Lib.replaceK, hi]
  by_cases h : Lib.index l [c] = -1
  ·rw [h]; rfl
  ·have h1 : (Lib.index l [c] == -1) = false := by rw [beq_eq_false_iff_ne]; exact h
   rw [h1]
   simp only [Bool.false_eq_true, if_false]
   have h2 : (Lib.index l [c] + 1 == -1) = false := by rw [beq_eq_false_iff_ne]; omega
   rw [h2]
   simp only [Bool.false_eq_true, if_false]
   obtain ⟨i, hi⟩ : ∃ i : Nat, Lib.index l [c] = i := ⟨(Lib.index l [c]).toNat, by omega⟩
   rw [hi]
   have e1 : ((i : Int) + 1).toNat = i + 1 := by omega
   rw [e1]
   simp
theorem replaceK_all (c : UInt8) : ∀ l : List UInt8, Lib.replaceK [c] [] (l.count c) l = l.filter (· != c)
 | [] => rfl
 | b :: l => by
  by_cases hb : b = c
  ·subst hb
   have hi : Lib.index (b :: l) [b] = (0 : Nat) := by
    rw [Lib.index, if_pos (by simp [List.isPrefixOf])]; rfl
   rw [List.count_cons_self, Lib.replaceK_hit _ _ _ _ 0 hi, List.filter_cons_of_neg (by simp)]
   simp only [List.take_zero, List.nil_append, Nat.zero_add, List.length_cons, List.length_nil, List.drop_succ_cons, List.drop_zero]
   exact replaceK_all b l
  ·rw [List.count_cons_of_ne hb, replaceK_skip c b hb, replaceK_all c l, List.filter_cons_of_pos (by simpa using hb)]
theorem replaceAll_drop (c : UInt8) (l : List UInt8) : Lib.replaceAll l [c] [] = l.filter (· != c) := by
 unfold Lib.replaceAll Lib.replace Lib.replaceNum
 rw [if_neg (by simp), if_pos (.inl (by decide)), Lib.count_one, replaceK_all]
theorem numT_no92 {m M : Int} (h : isCnt m M = true) : ∀ c ∈ numT m M, c ≠ 92 := by
 obtain ⟨h0, h1, h2⟩ := isCnt_of h
 have dig : ∀ {n : Int}, 0 ≤ n → n ≤ 255 → ∀ c ∈ Lib.itoa n, c ≠ 92 := fun {n} h0 h1 => by
  obtain ⟨k, rfl⟩ : ∃ k : Nat, n = k := ⟨n.toNat, by omega⟩
  rw [itoa_nat k (by omega)]
  have := (val3 k (by omega)).2.2.2
  intro c hc
  have := List.all_eq_true.1 this c hc
  rintro rfl
  revert this; decide
 have a := dig h0 h1
 intro c hc
 unfold numT at hc
 split at hc
 ·exact a c hc
 split at hc
 ·rcases List.mem_append.1 hc with q | q
  ·exact a c q
  ·rw [List.mem_singleton.1 q]; decide
 ·rename_i hM
  have b := dig (n := M) (by omega) (by omega)
  rcases List.mem_append.1 hc with q | q
  ·rcases List.mem_append.1 q with q | q
   ·exact a c q
   ·rw [List.mem_singleton.1 q]; decide
  ·exact b c q
theorem times_drop {m M : Int} (h : isCnt m M = true) (h1 : ¬ (m = 0 ∧ M = -1)) : (timesT m M).filter (· != 92) = [123] ++ numT m M ++ [125] := by
 have e : timesT m M = [92, 123] ++ numT m M ++ [92, 125] := by unfold timesT numT; rw [if_neg h1]
 rw [e, List.filter_append, List.filter_append]
 have : (numT m M).filter (· != 92) = numT m M := List.filter_eq_self.2 fun c hc => by simpa using numT_no92 h c hc
 rw [this]
 rfl
def tA (m M : Int) : T := .times m M (.leaf (byNd (inS ⟨#[97]⟩ 1)))
def xA (m M : Int) : List Nd := [byNd (inS ⟨#[97]⟩ 1), ⟨6, 0, 0, 0, 0, 0, 0, m, M, 0⟩]
theorem isNd_a : isNd (byNd (inS ⟨#[97]⟩ 1)) = true := by decide +kernel
theorem tA_can {m M : Int} (h : isCnt m M = true) : Canon true true (tA m M) := ⟨h, rfl, isNd_a, byNd_fits _, .inl rfl⟩
theorem show_a : showP (byNd (inS ⟨#[97]⟩ 1)).set = [97] := by decide +kernel
theorem text_a : textT (.leaf (byNd (inS ⟨#[97]⟩ 1))) = [97] := by
 unfold textT
 rw [if_pos (show (byNd (inS ⟨#[97]⟩ 1)).kind = 1 from rfl)]
 exact show_a
theorem tA_text (m M : Int) : textT (tA m M) = [97] ++ timesT m M := by
 unfold tA textT
 rw [text_a]
theorem tA_prints {m M : Int} (h : isCnt m M = true) : printsP (xA m M) (tA m M) = true := by
 obtain ⟨q, h1, h2⟩ := whole_text (tA m M) (tA_can h) (by show 2 ≤ 120; omega) rfl
 unfold printsP parsedL
 rw [h1, decide_eq_true_iff]
 exact h2
theorem tA_pat {m M : Int} (h : isCnt m M = true) : IsPat (xA m M) (tA m M) := canon_pat (t := tA m M) (tA_can h) (by show 2 ≤ 120; omega) rfl
theorem xA_fits {m M : Int} (h : isCnt m M = true) : ∀ (i : Nat) (x : Nd), (xA m M)[i]? = some x → x.Fits := fun i x hx => nodes_fits (tA m M) true true (tA_can h) 0 (by show 0 + 2 ≤ 120; omega) x (List.mem_of_getElem? hx)
def objA (F : Nat → Bool) (m M : Int) : Obj := .cells #[.int .i64 1, .int .u64 (wd F 0), .int .u64 (wd F 1), .int .u64 (wd F 2), .int .u64 (wd F 3), .int .i64 0, .int .i64 0, .int .i64 0, .int .i64 0, .int .i64 0, .int .i64 6, .int .u64 0, .int .u64 0, .int .u64 0, .int .u64 0, .int .i64 0, .int .i64 0, .int .i64 m, .int .i64 M, .int .i64 0] 37
theorem nodes_a {F : Nat → Bool} {m M : Int} (hf : ∀ (i : Nat) (x : Nd), [byNd F, ⟨6, 0, 0, 0, 0, 0, 0, m, M, 0⟩][i]? = some x → x.Fits) (w : World) : NodesAt (w.alloc (objA F m M)) w.heap.size 0 [byNd F, ⟨6, 0, 0, 0, 0, 0, 0, m, M, 0⟩] := by
 have ho : (w.alloc (objA F m M)).ownsRow 0 37 10 (.slice (some ⟨w.heap.size, 0, none⟩) 2 2) 2 (flat [byNd F, ⟨6, 0, 0, 0, 0, 0, 0, m, M, 0⟩]) := ⟨rfl, .inr ⟨w.heap.size, 2, _, rfl, Nat.zero_le _, heap_new w _, Nat.le_refl _, by decide, rfl, rfl⟩⟩
 obtain ⟨p, cap, hv, _, hA⟩ := bnodes_of_own ho rfl (by omega) hf
 cases hv
 obtain ⟨g, hg, _, hN⟩ := hA (by omega)
 cases hg
 exact hN
theorem etimes_show (m M : Int) (hc : isCnt m M = true) (w : World) (hw : Fit5 w) :
  Calls Tryz.prog 78 #[.int .i64 m, .int .i64 M] w fun e w' => e = .returned (.string ⟨(timesX m M).toArray⟩) ∧ Below w.heap.size w w' := by
 by_cases h1 : m = 0 ∧ M = -1
 ·obtain ⟨rfl, rfl⟩ := h1
  go_enter Tryz.func78, Tryz.ntmps78
  go_wp2
  go_ret
  exact ⟨rfl, Below.refl _ _⟩
 by_cases h2 : m = 1 ∧ M = -1
 ·obtain ⟨rfl, rfl⟩ := h2
  go_enter Tryz.func78, Tryz.ntmps78
  go_wp2
  go_ret
  exact ⟨rfl, Below.refl _ _⟩
 by_cases h3 : m = 0 ∧ M = 1
 ·obtain ⟨rfl, rfl⟩ := h3
  go_enter Tryz.func78, Tryz.ntmps78
  go_wp2
  go_ret
  exact ⟨rfl, Below.refl _ _⟩
 obtain ⟨i0, i1, i2⟩ := isCnt_of hc
 have ht : timesX m M = [123] ++ numT m M ++ [125] := by unfold timesX; rw [if_neg h1, if_neg h2, if_neg h3]
 have htd := times_drop hc h1
 rw [← ht] at htd
 have hof := fun w => of_c ⟨#[97]⟩ (by decide) w
 rw [show (⟨#[97]⟩ : ByteArray).size = 1 from rfl] at hof
 obtain ⟨F, hF⟩ : ∃ F, F = inS ⟨#[97]⟩ 1 := ⟨_, rfl⟩
 have hpr := fun b cap w hw hx => print_in b 0 2 cap (xA m M) (tA m M) (tA_pat hc) rfl (xA_fits hc) w hw hx
 rw [tA_prints hc, tA_text] at hpr
 simp only [if_true] at hpr
 obtain ⟨X, hX⟩ : ∃ X, X = timesT m M := ⟨_, rfl⟩
 have hxl : X.length ≤ 60 := by rw [hX]; exact timesT_len m M (by omega) (by omega) (by omega) (by omega)
 rw [← hX] at hpr htd
 have htp := fun w => Tryz.strings_TrimPrefix ⟨([97] ++ X).toArray⟩ ⟨#[97]⟩ w
 have etp : Lib.trimPrefix (⟨([97] ++ X).toArray⟩ : ByteArray).data.toList (⟨#[97]⟩ : ByteArray).data.toList = X := by
  unfold Lib.trimPrefix Lib.hasPrefix
  simp [List.isPrefixOf]
 rw [etp] at htp
 have hra : ∀ w, MaxL w → Calls Tryz.prog 108 #[.string ⟨X.toArray⟩, .string ⟨#[92]⟩, .string ⟨#[]⟩] w fun e w' => e = .returned (.string ⟨(Lib.replaceAll (⟨X.toArray⟩ : ByteArray).data.toList (⟨#[92]⟩ : ByteArray).data.toList (⟨#[]⟩ : ByteArray).data.toList).toArray⟩) ∧ Below w.heap.size w w' := fun w hm => by
  obtain ⟨k, hk⟩ := hm
  exact Tryz.strings_ReplaceAll ⟨X.toArray⟩ ⟨#[92]⟩ ⟨#[]⟩ k w (by simp only [ByteArray.size, List.size_toArray]; omega) hk (by decide) (by
   have e0 : (⟨#[]⟩ : ByteArray).size = 0 := rfl
   rw [e0, Nat.mul_zero]
   simp only [ByteArray.size, List.size_toArray]; omega)
 have era : Lib.replaceAll (⟨X.toArray⟩ : ByteArray).data.toList (⟨#[92]⟩ : ByteArray).data.toList (⟨#[]⟩ : ByteArray).data.toList = timesX m M := by
  rw [← htd]
  exact replaceAll_drop 92 X
 rw [era] at hra
 have hsw : ((m == 0) = true ∧ (M == -1) = false ∧ (M == 1) = false ∧ (m == 1) = false) ∨ ((m == 0) = false ∧ (m == 1) = true ∧ (M == -1) = false) ∨ ((m == 0) = false ∧ (m == 1) = false) := by
  simp only [beq_iff_eq, beq_eq_false_iff_ne, ne_eq]
  omega
 rw [← hF] at hof
 have hxa : xA m M = [byNd F, ⟨6, 0, 0, 0, 0, 0, 0, m, M, 0⟩] := by rw [hF]; rfl
 rw [hxa] at hpr
 have hfx := xA_fits hc
 rw [hxa] at hfx
 have HNA := Lib.hid (fun w => nodes_a hfx w)
 unfold objA at HNA
 have HOF := Lib.hid hof
 have HPR := Lib.hid hpr
 have HTP := Lib.hid htp
 have HRA := Lib.hid hra
 have HW := Lib.hid hw
 clear hof hpr htp hra hX htd ht h1 h2 h3 hw hc hF hxa etp era i0 i1 i2
 obtain ⟨R, hR⟩ : ∃ R : ByteArray, R = ⟨(timesX m M).toArray⟩ := ⟨_, rfl⟩
 rw [← hR] at HRA ⊢
 clear hR
 unfold sv at HOF
 clear hfx
 rcases hsw with ⟨f1, f2, f3, f4⟩ | ⟨f1, f2, f3⟩ | ⟨f1, f2⟩
 all_goals (
  go_enter Tryz.func78, Tryz.ntmps78
  go_wp2_with fail
  refine (HOF.out _).mono ?_
  rintro e w1 ⟨rfl, hB1⟩
  have hf1 := HW.out.below hB1
  have HB1 := Lib.hid hB1
  clear hB1
  go_wp2_with fail
  have hb2 := (Below.refl w1.heap.size w1).alloc (Nat.le_refl _) (.cells #[.int .i64 1, .int .u64 (wd F 0), .int .u64 (wd F 1), .int .u64 (wd F 2), .int .u64 (wd F 3), .int .i64 0, .int .i64 0, .int .i64 0, .int .i64 0, .int .i64 0, .int .i64 6, .int .u64 0, .int .u64 0, .int .u64 0, .int .u64 0, .int .i64 0, .int .i64 0, .int .i64 m, .int .i64 M, .int .i64 0] 37)
  have hf2 := hf1.below hb2
  have hB2 := HB1.out.trans (hb2.mono HB1.out.size)
  refine (HPR.out w1.heap.size 2 _ hf2 (HNA.out w1)).mono ?_
  rintro e w3 ⟨rfl, hB3⟩
  have hf3 := Lib.hid (hf2.below hB3)
  have HB3 := Lib.hid (hB2.trans (hB3.mono hB2.size))
  clear hB3 hf2 hB2 hb2 HB1 hf1
  go_wp2_with fail
  refine (HTP.out _).mono ?_
  rintro e w4 ⟨rfl, rfl⟩
  go_wp2_with fail
  refine (HRA.out _ hf3.out.m).mono ?_
  rintro e w5 ⟨rfl, hB5⟩
  have HB5 := Lib.hid (HB3.out.trans (hB5.mono HB3.out.size))
  clear hB5
  go_wp2
  go_ret
  exact ⟨rfl, HB5.out⟩)
end Go.Proofs.YtdjcgjkbecncaaaGreatDoor
