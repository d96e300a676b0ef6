/- EreAlts: the walk. -/
import Derived.Test.YtdjcgjkbecncaaaGreatDoorJEqV
import Derived.Test.YtdjcgjkbecncaaaGreatDoorJEqR
set_option linter.unusedVariables false
set_option linter.unusedSimpArgs false
set_option maxRecDepth 100000
set_option maxHeartbeats 40000000
namespace Go.Proofs.YtdjcgjkbecncaaaGreatDoor
open Go.RowKit Go.Lib
theorem gcnt_count (xs : List Nd) : ∀ k, gcnt xs k = (xs.take k).countP (fun x => decide (x.kind = 7))
 | 0 => by simp [gcnt]
 | k + 1 => by
  rw [gcnt, gcnt_count xs k]
  cases h : xs[k]? with
  | none =>
   have := List.getElem?_eq_none_iff.1 h
   rw [List.take_of_length_le this, List.take_of_length_le (by omega)]
   rfl
  | some x =>
   have hk := (List.getElem?_eq_some_iff.1 h).1
   have hx := (List.getElem?_eq_some_iff.1 h).2
   rw [List.take_succ_eq_append_getElem hk, hx, List.countP_append]
   simp [List.countP_cons]
theorem nodes_groups : ∀ (t : T) (v o : Nat), Can5 v t → (t.nodes o).countP (fun x => decide (x.kind = 7)) = grp t
 | .leaf x, v, o, h => by
  have : ¬ x.kind = 7 := by rcases h.2.2 with q | q | q <;> omega
  simp [T.nodes, grp, this]
 | .two k a b, v, o, h => by
  have hk : k = 4 ∨ k = 5 := by rcases h with h | h <;> omega
  obtain ⟨va, vb, ha, hb⟩ : ∃ va vb, Can5 va a ∧ Can5 vb b := by
   rcases h with h | h
   ·exact ⟨_, _, h.2.2.1, h.2.2.2⟩
   ·exact ⟨_, _, h.2.2.1, h.2.2.2⟩
  have : ¬ k = 7 := by omega
  simp [T.nodes, grp, T.root, this, nodes_groups a va _ ha, nodes_groups b vb _ hb]
 | .times m M t, v, o, h => by
  simp [T.nodes, grp, T.root, nodes_groups t 0 _ h.2.2]
 | .group n t, v, o, h => by
  simp [T.nodes, grp, T.root, nodes_groups t 2 _ h.2]
theorem text_up (G : Nat) : ∀ t : T, text (t.up G) = text t
 | .leaf x => rfl
 | .two k a b => by simp only [T.up, text, text_up G a, text_up G b]
 | .times m M t => by simp only [T.up, text, text_up G t]
 | .group n t => by simp only [T.up, text, text_up G t]
theorem eok_of {s : List UInt8} {t : T} (h0 : s ≠ []) (hq : treeP s = .ok t) (h1 : t.size ≤ 120) : ereP s = .ok (t.nodes 0) ∧ EOk s (t.nodes 0) t := by
 have ht := ere_tree s h0
 rw [hq] at ht
 simp only at ht
 rw [if_neg (by omega)] at ht
 obtain ⟨hc, hn, hg⟩ := tree_can hq
 have htt := tree_text hc hn hg
 have hne : textE t ≠ [] := by
  intro e
  rw [e] at htt
  cases htt
 have hb := ere_tree (textE t) hne
 rw [htt] at hb
 simp only at hb
 rw [if_neg (by omega)] at hb
 exact ⟨ht, can_pat hc (by omega) hn, hb, can_fits t _ hc 0 (by omega), can_noref t _ hc 0, can_ok t _ hc, by omega, T.nodes_len t 0, rfl⟩
theorem tree_of_ere {s : List UInt8} {l : List Nd} (h0 : s ≠ []) (h : ereP s = .ok l) : ∃ t, treeP s = .ok t ∧ t.size ≤ 120 ∧ l = t.nodes 0 := by
 have ht := ere_tree s h0
 cases hq : treeP s with
 | error e => rw [hq] at ht; simp only at ht; rw [ht] at h; cases h
 | ok t =>
  rw [hq] at ht
  simp only at ht
  by_cases h1 : 120 < t.size
  ·rw [if_pos h1] at ht; rw [ht] at h; cases h
  ·rw [if_neg h1] at ht
   rw [ht] at h
   cases h
   exact ⟨t, rfl, by omega, rfl⟩
theorem egroups_row {s : List UInt8} {t : T} (h0 : s ≠ []) (hq : treeP s = .ok t) (h1 : t.size ≤ 120) {b o n cap : Nat} (w : World) (h : Row15 w (t.nodes 0) b o n cap) :
  Calls Tryz.prog 22 #[.slice (some ⟨b, o, none⟩) n cap] w fun e w' => e = .returned (.int .i64 (grp t : Int)) ∧ Below w.heap.size w w' := by
 obtain ⟨_, ht⟩ := eok_of h0 hq h1
 have hl := h.len
 have hp := t.size_pos
 rw [T.nodes_len] at hl
 have hg := groups_in b o n cap (t.nodes 0) h.len h.pos (by omega) (fun i x hx => ht.fits x (List.mem_of_getElem? hx)) ⟨t, ht.pat⟩ w h.x
 have e : gcnt (t.nodes 0) n = grp t := by
  rw [gcnt_count, ← h.len, List.take_length]
  exact nodes_groups t 2 0 (tree_can hq).1
 rw [e] at hg
 exact hg
theorem ealts_out (s t : List UInt8) (h : 60 < s.length ∨ 60 < t.length ∨ s = [] ∨ t = []) (w : World) (hw : Fit5 w) :
  Calls Tryz.prog 7 #[.string ⟨s.toArray⟩, .string ⟨t.toArray⟩] w fun e w' => e = .returned (.bool true) ∧ Below w.heap.size w w' := by
 have HS := Lib.hid (shown5_c w hw)
 have z1 : (⟨s.toArray⟩ : ByteArray).size = s.length := by simp [ByteArray.size]
 have z2 : (⟨t.toArray⟩ : ByteArray).size = t.length := by simp [ByteArray.size]
 have hc : 60 < s.length ∨ (s.length ≤ 60 ∧ 60 < t.length) ∨ (s.length ≤ 60 ∧ t.length ≤ 60 ∧ s.isEmpty = true) ∨ (s.length ≤ 60 ∧ t.length ≤ 60 ∧ s.isEmpty = false ∧ t.isEmpty = true) := by
  have hs : s.isEmpty = true ∨ s.isEmpty = false := by cases s.isEmpty <;> simp
  rcases h with h | h | h | h
  ·exact .inl h
  ·by_cases q : 60 < s.length
   ·exact .inl q
   ·exact .inr (.inl ⟨by omega, h⟩)
  ·by_cases q : 60 < t.length
   ·exact .inr (.inl ⟨by rw [h]; simp, q⟩)
   ·exact .inr (.inr (.inl ⟨by rw [h]; simp, by omega, by rw [h]; rfl⟩))
  ·by_cases q : 60 < s.length
   ·exact .inl q
   ·rcases hs with k | k
    ·exact .inr (.inr (.inl ⟨by omega, by rw [h]; simp, k⟩))
    ·exact .inr (.inr (.inr ⟨by omega, by rw [h]; simp, k, by rw [h]; rfl⟩))
 clear h hw
 rcases hc with h1 | ⟨h1, h2⟩ | ⟨h1, h2, h3⟩ | ⟨h1, h2, h3, h4⟩
 ·have g1 : ((60 : Int) < s.length) = True := by simp; omega
  go_enter Tryz.func7, Tryz.ntmps7
  go_wp2_with fail
  refine HS.out.mono ?_
  rintro e w1 ⟨rfl, hB1⟩
  go_wp2
  go_ret
  exact ⟨rfl, hB1⟩
 ·have g1 : ((60 : Int) < s.length) = False := by simp; omega
  have g2 : ((60 : Int) < t.length) = True := by simp; omega
  go_enter Tryz.func7, Tryz.ntmps7
  go_wp2_with fail
  refine HS.out.mono ?_
  rintro e w1 ⟨rfl, hB1⟩
  go_wp2
  go_ret
  exact ⟨rfl, hB1⟩
 ·have g1 : ((60 : Int) < s.length) = False := by simp; omega
  have g2 : ((60 : Int) < t.length) = False := by simp; omega
  go_enter Tryz.func7, Tryz.ntmps7
  go_wp2_with fail
  refine HS.out.mono ?_
  rintro e w1 ⟨rfl, hB1⟩
  go_wp2
  go_ret
  exact ⟨rfl, hB1⟩
 ·have g1 : ((60 : Int) < s.length) = False := by simp; omega
  have g2 : ((60 : Int) < t.length) = False := by simp; omega
  go_enter Tryz.func7, Tryz.ntmps7
  go_wp2_with fail
  refine HS.out.mono ?_
  rintro e w1 ⟨rfl, hB1⟩
  go_wp2
  go_ret
  exact ⟨rfl, hB1⟩
theorem eparse_any (s : List UInt8) (hs : s.length ≤ 99990) (w : World) (hw : Fit5 w) :
  Calls Tryz.prog 13 #[.string ⟨s.toArray⟩] w fun e w' => (∃ p n cap a z, e = .returned (.tuple #[.slice p n cap, .int .i64 a, .int .i64 z])) ∧ Below w.heap.size w w' := by
 refine (eparse_c s hs w hw).mono ?_
 rintro e w' ⟨hout, hB⟩
 obtain ⟨p, n, cap, a, z, he, _⟩ := eout_nodes (w := w) hout
 exact ⟨⟨p, n, cap, a, z, he⟩, hB⟩
theorem ealts_er (s t : List UInt8) (h1 : s.length ≤ 60) (h2 : t.length ≤ 60) (h3 : s ≠ []) (h4 : t ≠ []) (h : (∃ z a, ereP s = .error (z, a)) ∨ ((∃ l, ereP s = .ok l) ∧ ∃ z a, ereP t = .error (z, a))) (w : World) (hw : Fit5 w) :
  Calls Tryz.prog 7 #[.string ⟨s.toArray⟩, .string ⟨t.toArray⟩] w fun e w' => e = .returned (.bool true) ∧ Below w.heap.size w w' := by
 have HS := Lib.hid (shown5_c w hw)
 have HW := Lib.hid hw
 have g1 : ((60 : Int) < s.length) = False := by simp; omega
 have g2 : ((60 : Int) < t.length) = False := by simp; omega
 have g3 : s.isEmpty = false := by cases s with | nil => exact absurd rfl h3 | cons a l => rfl
 have g4 : t.isEmpty = false := by cases t with | nil => exact absurd rfl h4 | cons a l => rfl
 have hc := fun w hw => eparse_any (s ++ [124] ++ t) (by simp; omega) w hw
 have HC := Lib.hid hc
 have hta := fun w hw => eparse_any t (by omega) w hw
 clear hc hw
 rcases h with ⟨z, a, he⟩ | ⟨⟨l, hl⟩, z, a, he⟩
 ·have hz := (ere_er he).1
  have z0 : (z != 0) = true := by rw [bne_iff_ne]; omega
  have HA := Lib.hid fun w hw => eparse_er s (by omega) z a he w hw
  have HB := Lib.hid hta
  clear he hz hta
  go_enter Tryz.func7, Tryz.ntmps7
  go_wp2_with fail
  refine HS.out.mono ?_
  rintro e w1 ⟨rfl, hB1⟩
  have f1 := HW.out.below hB1
  go_wp2_with fail
  refine (HA.out _ f1).mono ?_
  rintro e w2 ⟨rfl, hB2⟩
  have f2 := f1.below hB2
  have b2 := hB1.trans (hB2.mono hB1.size)
  clear hB1 hB2 f1
  go_wp2_with fail
  refine (HB.out _ f2).mono ?_
  rintro e w3 ⟨⟨p, n, cap, a2, z2, rfl⟩, hB3⟩
  have f3 := f2.below hB3
  have b3 := b2.trans (hB3.mono b2.size)
  clear b2 hB3 f2
  go_wp2_with fail
  refine (HC.out _ f3).mono ?_
  rintro e w4 ⟨⟨p4, n4, cap4, a4, z4, rfl⟩, hB4⟩
  have b4 := b3.trans (hB4.mono b3.size)
  clear b3 hB4 f3
  go_wp2
  go_ret
  exact ⟨rfl, b4⟩
 ·obtain ⟨ta, hta2, hts, rfl⟩ := tree_of_ere h3 hl
  obtain ⟨hea, hka⟩ := eok_of h3 hta2 hts
  have hz := (ere_er he).1
  have z0 : (z != 0) = true := by rw [bne_iff_ne]; omega
  have HA := Lib.hid fun w hw => eparse_row s (by omega) (ta.nodes 0) hea ta hka w hw
  have HB := Lib.hid fun w hw => eparse_er t (by omega) z a he w hw
  clear he hz hta hl hea hka hta2 hts
  go_enter Tryz.func7, Tryz.ntmps7
  go_wp2_with fail
  refine HS.out.mono ?_
  rintro e w1 ⟨rfl, hB1⟩
  have f1 := HW.out.below hB1
  go_wp2_with fail
  refine (HA.out _ f1).mono ?_
  rintro e w2 ⟨⟨b, o, n, cap, rfl, r2⟩, hB2⟩
  have f2 := f1.below hB2
  have b2 := hB1.trans (hB2.mono hB1.size)
  clear hB1 hB2 f1 r2
  go_wp2_with fail
  refine (HB.out _ f2).mono ?_
  rintro e w3 ⟨rfl, hB3⟩
  have f3 := f2.below hB3
  have b3 := b2.trans (hB3.mono b2.size)
  clear b2 hB3 f2
  go_wp2_with fail
  refine (HC.out _ f3).mono ?_
  rintro e w4 ⟨⟨p4, n4, cap4, a4, z4, rfl⟩, hB4⟩
  have b4 := b3.trans (hB4.mono b3.size)
  clear b3 hB4 f3
  go_wp2
  go_ret
  exact ⟨rfl, b4⟩
theorem Row15.lt {w : World} {xs : List Nd} {b o n cap : Nat} (h : Row15 w xs b o n cap) : (n : Int) < 1000 := by have := h.n; omega
theorem ealts_much (s t : List UInt8) (h1 : s.length ≤ 60) (h2 : t.length ≤ 60) (h3 : s ≠ []) (h4 : t ≠ []) {ta tb : T} (ha : treeP s = .ok ta) (hb : treeP t = .ok tb) (ka : ta.size ≤ 120) (kb : tb.size ≤ 120) (h : 9 < grp ta + grp tb ∨ (grp ta + grp tb ≤ 9 ∧ 100 < ta.size + tb.size)) (w : World) (hw : Fit5 w) :
  Calls Tryz.prog 7 #[.string ⟨s.toArray⟩, .string ⟨t.toArray⟩] w fun e w' => e = .returned (.bool true) ∧ Below w.heap.size w w' := by
 have HS := Lib.hid (shown5_c w hw)
 have HW := Lib.hid hw
 have g1 : ((60 : Int) < s.length) = False := by simp; omega
 have g2 : ((60 : Int) < t.length) = False := by simp; omega
 have g3 : s.isEmpty = false := by cases s with | nil => exact absurd rfl h3 | cons a l => rfl
 have g4 : t.isEmpty = false := by cases t with | nil => exact absurd rfl h4 | cons a l => rfl
 have HC := Lib.hid fun w hw => eparse_any (s ++ [124] ++ t) (by simp; omega) w hw
 obtain ⟨ea, oa⟩ := eok_of h3 ha ka
 obtain ⟨eb, ob⟩ := eok_of h4 hb kb
 have HA := Lib.hid fun w hw => eparse_row s (by omega) (ta.nodes 0) ea ta oa w hw
 have HB := Lib.hid fun w hw => eparse_row t (by omega) (tb.nodes 0) eb tb ob w hw
 have HGA := Lib.hid fun b o n cap w h => egroups_row h3 ha ka (b := b) (o := o) (n := n) (cap := cap) w h
 have HGB := Lib.hid fun b o n cap w h => egroups_row h4 hb kb (b := b) (o := o) (n := n) (cap := cap) w h
 have ca := (tree_can ha).2.2
 have cb := (tree_can hb).2.2
 obtain ⟨x, hx⟩ : ∃ x, x = grp ta := ⟨_, rfl⟩
 obtain ⟨y, hy⟩ : ∃ x, x = grp tb := ⟨_, rfl⟩
 rw [← hx, ← hy] at h
 rw [← hx] at HGA ca
 rw [← hy] at HGB cb
 have ew : IntKind.i64.wrap ((x : Int) + (y : Int)) = (x : Int) + (y : Int) := by simp [IntKind.wrap, IntKind.signed, IntKind.bits]; omega
 have la : (ta.nodes 0).length = ta.size := T.nodes_len ta 0
 have lb : (tb.nodes 0).length = tb.size := T.nodes_len tb 0
 have HLA := Lib.hid la
 have HLB := Lib.hid lb
 clear ea oa eb ob ha hb hx hy la lb hw
 generalize ta.nodes 0 = xs at *
 generalize tb.nodes 0 = ys at *
 rcases h with h | ⟨h, h5⟩
 ·have g9 : ((9 : Int) < (x : Int) + (y : Int)) = True := by simp; omega
  go_enter Tryz.func7, Tryz.ntmps7
  go_wp2_with fail
  refine HS.out.mono ?_
  rintro e w1 ⟨rfl, hB1⟩
  have f1 := HW.out.below hB1
  go_wp2_with fail
  refine (HA.out _ f1).mono ?_
  rintro e w2 ⟨⟨b, o, n, cap, rfl, r2⟩, hB2⟩
  have f2 := f1.below hB2
  have b2 := hB1.trans (hB2.mono hB1.size)
  clear hB1 hB2 f1
  go_wp2_with fail
  refine (HB.out _ f2).mono ?_
  rintro e w3 ⟨⟨b', o', n', cap', rfl, r3⟩, hB3⟩
  have r23 := r2.below hB3
  have f3 := f2.below hB3
  have b3 := b2.trans (hB3.mono b2.size)
  clear b2 hB3 f2 r2
  go_wp2_with fail
  refine (HC.out _ f3).mono ?_
  rintro e w4 ⟨⟨p4, n4, cap4, a4, z4, rfl⟩, hB4⟩
  have r24 := r23.below hB4
  have r34 := r3.below hB4
  have b4 := b3.trans (hB4.mono b3.size)
  clear b3 hB4 f3 r23 r3
  go_wp2_with fail
  refine (HGA.out _ _ _ _ _ r24).mono ?_
  rintro e w5 ⟨rfl, hB5⟩
  have r35 := r34.below hB5
  have b5 := b4.trans (hB5.mono b4.size)
  clear b4 hB5 r24 r34
  go_wp2_with fail
  refine (HGB.out _ _ _ _ _ r35).mono ?_
  rintro e w6 ⟨rfl, hB6⟩
  have b6 := b5.trans (hB6.mono b5.size)
  clear b5 hB6 r35
  go_wp2
  go_ret
  exact ⟨rfl, b6⟩
 ·have g9 : ((9 : Int) < (x : Int) + (y : Int)) = False := by simp; omega
  go_enter Tryz.func7, Tryz.ntmps7
  go_wp2_with fail
  refine HS.out.mono ?_
  rintro e w1 ⟨rfl, hB1⟩
  have f1 := HW.out.below hB1
  go_wp2_with fail
  refine (HA.out _ f1).mono ?_
  rintro e w2 ⟨⟨b, o, n, cap, rfl, r2⟩, hB2⟩
  have f2 := f1.below hB2
  have b2 := hB1.trans (hB2.mono hB1.size)
  clear hB1 hB2 f1
  go_wp2_with fail
  refine (HB.out _ f2).mono ?_
  rintro e w3 ⟨⟨b', o', n', cap', rfl, r3⟩, hB3⟩
  have r23 := r2.below hB3
  have f3 := f2.below hB3
  have b3 := b2.trans (hB3.mono b2.size)
  clear b2 hB3 f2 r2
  go_wp2_with fail
  refine (HC.out _ f3).mono ?_
  rintro e w4 ⟨⟨p4, n4, cap4, a4, z4, rfl⟩, hB4⟩
  have r24 := r23.below hB4
  have r34 := r3.below hB4
  have b4 := b3.trans (hB4.mono b3.size)
  have el : (n : Int) + (n' : Int) = ((ta.size + tb.size : Nat) : Int) := by have := r24.len; have := r34.len; have := HLA.out; have := HLB.out; omega
  have en : IntKind.i64.wrap ((n : Int) + (n' : Int)) = (n : Int) + (n' : Int) := by have := r24.lt; have := r34.lt; simp [IntKind.wrap, IntKind.signed, IntKind.bits]; omega
  have g100 : ((100 : Int) < (n : Int) + (n' : Int)) = True := by rw [el]; simp; omega
  clear b3 hB4 f3 r23 r3 el
  go_wp2_with fail
  refine (HGA.out _ _ _ _ _ r24).mono ?_
  rintro e w5 ⟨rfl, hB5⟩
  have r35 := r34.below hB5
  have b5 := b4.trans (hB5.mono b4.size)
  clear b4 hB5 r24 r34
  go_wp2_with fail
  refine (HGB.out _ _ _ _ _ r35).mono ?_
  rintro e w6 ⟨rfl, hB6⟩
  have b6 := b5.trans (hB6.mono b5.size)
  clear b5 hB6 r35
  go_wp2
  go_ret
  exact ⟨rfl, b6⟩
end Go.Proofs.YtdjcgjkbecncaaaGreatDoor
namespace Go.Proofs.YtdjcgjkbecncaaaGreatDoor
open Go.RowKit Go.Lib
theorem ealts_both (s t : List UInt8) (h1 : s.length ≤ 60) (h2 : t.length ≤ 60) (h3 : s ≠ []) (h4 : t ≠ []) {ta tb : T} (ha : treeP s = .ok ta) (hb : treeP t = .ok tb) (hg : grp ta + grp tb ≤ 9) (hsz : ta.size + tb.size ≤ 100) (w : World) (hw : Fit5 w) :
  Calls Tryz.prog 7 #[.string ⟨s.toArray⟩, .string ⟨t.toArray⟩] w fun e w' => e = .returned (.bool true) ∧ Below w.heap.size w w' := by
 have pa := ta.size_pos
 have pb := tb.size_pos
 have HS := Lib.hid (shown5_c w hw)
 have HW := Lib.hid hw
 have g1 : ((60 : Int) < s.length) = False := by simp; omega
 have g2 : ((60 : Int) < t.length) = False := by simp; omega
 have g3 : s.isEmpty = false := by cases s with | nil => exact absurd rfl h3 | cons a l => rfl
 have g4 : t.isEmpty = false := by cases t with | nil => exact absurd rfl h4 | cons a l => rfl
 obtain ⟨tc, hc, hcs, hcc⟩ := tree_alt ha hb hg
 have h5 : s ++ [124] ++ t ≠ [] := by simp
 obtain ⟨ea, oa⟩ := eok_of h3 ha (by omega)
 obtain ⟨eb, ob⟩ := eok_of h4 hb (by omega)
 obtain ⟨ec, oc⟩ := eok_of h5 hc (by omega)
 have HA := Lib.hid fun w hw => eparse_row s (by omega) (ta.nodes 0) ea ta oa w hw
 have HB := Lib.hid fun w hw => eparse_row t (by omega) (tb.nodes 0) eb tb ob w hw
 have HC := Lib.hid fun w hw => eparse_row (s ++ [124] ++ t) (by simp; omega) (tc.nodes 0) ec tc oc w hw
 have HGA := Lib.hid fun b o n cap w h => egroups_row h3 ha (by omega) (b := b) (o := o) (n := n) (cap := cap) w h
 have HGB := Lib.hid fun b o n cap w h => egroups_row h4 hb (by omega) (b := b) (o := o) (n := n) (cap := cap) w h
 have hTA := fun b o n cap w hw h => etext_row oa (b := b) (o := o) (n := n) (cap := cap) w hw h
 have hTB := fun b o n cap w hw h => etext_row ob (b := b) (o := o) (n := n) (cap := cap) w hw h
 have hTC := fun b o n cap w hw h => etext_row oc (b := b) (o := o) (n := n) (cap := cap) w hw h
 obtain ⟨x, hx⟩ : ∃ x, x = grp ta := ⟨_, rfl⟩
 obtain ⟨y, hy⟩ : ∃ x, x = grp tb := ⟨_, rfl⟩
 rw [← hx] at HGA
 rw [← hy] at HGB
 have ew : IntKind.i64.wrap ((x : Int) + (y : Int)) = (x : Int) + (y : Int) := by simp [IntKind.wrap, IntKind.signed, IntKind.bits]; omega
 have g9 : ((9 : Int) < (x : Int) + (y : Int)) = False := by simp; omega
 obtain ⟨k, hk⟩ : ∃ k, ta.size = k + 1 := ⟨ta.size - 1, by omega⟩
 have la : (ta.nodes 0).length = k + 1 := (T.nodes_len ta 0).trans hk
 have lb : (tb.nodes 0).length = tb.size := T.nodes_len tb 0
 have lc : (tc.nodes 0).length = tc.size := T.nodes_len tc 0
 have hroot : (ta.nodes 0)[k]? = some (ta.root 0) := by
  have := oa.pat.2.1.root
  rw [show 0 + ta.size - 1 = k by omega] at this
  exact this
 have HLA := Lib.hid la
 have HLB := Lib.hid lb
 have HLC := Lib.hid (lc.trans hcs)
 have HRT := Lib.hid hroot
 have hkd : (ta.root 0).kind = 5 ∨ ((ta.root 0).kind ≠ 5 ∧ text tc = [124] ++ text ta ++ text tb) := by
  rcases hcc with ⟨l, r, rfl⟩ | ⟨hc1, rfl⟩
  ·exact .inl rfl
  ·by_cases q : (ta.root 0).kind = 5
   ·exact .inl q
   ·refine .inr ⟨q, ?_⟩
    have e : text (.two 5 ta (tb.up (grp ta))) = 124 :: (text ta ++ text (tb.up (grp ta))) := rfl
    rw [e, text_up]; simp
 obtain ⟨UA, hUA⟩ : ∃ S : ByteArray, S = ⟨(text ta).toArray⟩ := ⟨_, rfl⟩
 obtain ⟨UB, hUB⟩ : ∃ S : ByteArray, S = ⟨(text tb).toArray⟩ := ⟨_, rfl⟩
 obtain ⟨UC, hUC⟩ : ∃ S : ByteArray, S = ⟨(text tc).toArray⟩ := ⟨_, rfl⟩
 rw [← hUA] at hTA
 rw [← hUB] at hTB
 rw [← hUC] at hTC
 have hcat : text tc = [124] ++ text ta ++ text tb → UC = (⟨#[124]⟩ : ByteArray) ++ UA ++ UB := fun e => by
  rw [hUC, e, hUA, hUB]
  apply ByteArray.ext
  apply Array.ext'
  simp
 have sa := text_len ta oa.ok
 have sb := text_len tb ob.ok
 have zA : UA.size ≤ 100000 := by rw [hUA]; simp [ByteArray.size]; omega
 have zB : UB.size ≤ 100000 := by rw [hUB]; simp [ByteArray.size]; omega
 have y1 : (9223372036854775807 < 1 + UA.size) = False := by simp; omega
 have y2 : (9223372036854775807 < 1 + UA.size + UB.size) = False := by simp; omega
 have TA := Lib.hid hTA
 have TB := Lib.hid hTB
 have TC := Lib.hid hTC
 have hcs' : tc.size = (k + 1) + tb.size + 1 := by omega
 clear hTA hTB hTC ea oa eb ob ec oc hc hcc ha hb hx hy la lb lc hroot hw hUA hUB hUC sa sb
 generalize hxs : ta.nodes 0 = xs at *
 generalize hys : tb.nodes 0 = ys at *
 generalize hzs : tc.nodes 0 = zs at *
 clear hxs hys hzs
 rcases hkd with hkd | ⟨hkd, htx⟩
 ·go_enter Tryz.func7, Tryz.ntmps7
  go_wp2_with fail
  refine HS.out.mono ?_
  rintro e w1 ⟨rfl, hB1⟩
  have f1 := HW.out.below hB1
  go_wp2_with fail
  refine (HA.out _ f1).mono ?_
  rintro e w2 ⟨⟨b, o, n, cap, rfl, r2⟩, hB2⟩
  have f2 := f1.below hB2
  have b2 := hB1.trans (hB2.mono hB1.size)
  clear hB1 hB2 f1
  go_wp2_with fail
  refine (HB.out _ f2).mono ?_
  rintro e w3 ⟨⟨b', o', n', cap', rfl, r3⟩, hB3⟩
  have r23 := r2.below hB3
  have f3 := f2.below hB3
  have b3 := b2.trans (hB3.mono b2.size)
  clear b2 hB3 f2 r2
  go_wp2_with fail
  refine (HC.out _ f3).mono ?_
  rintro e w4 ⟨⟨b4', o4, n4, cap4, rfl, r4⟩, hB4⟩
  have r24 := r23.below hB4
  have r34 := r3.below hB4
  have b4 := b3.trans (hB4.mono b3.size)
  obtain rfl : k + 1 = n := by have := r24.len; have := HLA.out; omega
  obtain rfl : tb.size = n' := by have := r34.len; have := HLB.out; omega
  obtain rfl : tc.size = n4 := by have := r4.len; have := HLC.out; omega
  rw [hcs']
  generalize tb.size = m at *
  have en : IntKind.i64.wrap (((k + 1 : Nat) : Int) + (m : Int)) = ((k + 1 : Nat) : Int) + (m : Int) := by simp [IntKind.wrap, IntKind.signed, IntKind.bits]; omega
  have g100 : ((100 : Int) < ((k + 1 : Nat) : Int) + (m : Int)) = False := by simp; omega
  clear b3 hB4 f3 r23 r3
  go_wp2_with fail
  refine (HGA.out _ _ _ _ _ r24).mono ?_
  rintro e w5 ⟨rfl, hB5⟩
  have r25 := r24.below hB5
  have r35 := r34.below hB5
  have b5 := b4.trans (hB5.mono b4.size)
  clear b4 hB5 r24 r34
  go_wp2_with fail
  refine (HGB.out _ _ _ _ _ r35).mono ?_
  rintro e w6 ⟨rfl, hB6⟩
  have r26 := r25.below hB6
  have b6 := b5.trans (hB6.mono b5.size)
  clear b5 hB6 r35 r25
  have d0 : w6.cell? ⟨b, o + k * 10, none⟩ = some (.int .i64 5) := by
   have := r26.x.cell k _ HRT.out 0 (.int .i64 (ta.root 0).kind) rfl
   rw [hkd] at this
   simpa using this
  go_wp2
  go_ret
  exact ⟨rfl, b6⟩
 ·have hcat := hcat htx
  subst hcat
  have hk5 : ((ta.root 0).kind == 5) = false := by rw [beq_eq_false_iff_ne]; exact hkd
  clear htx hkd
  go_enter Tryz.func7, Tryz.ntmps7
  go_wp2_with fail
  refine HS.out.mono ?_
  rintro e w1 ⟨rfl, hB1⟩
  have f1 := HW.out.below hB1
  go_wp2_with fail
  refine (HA.out _ f1).mono ?_
  rintro e w2 ⟨⟨b, o, n, cap, rfl, r2⟩, hB2⟩
  have f2 := f1.below hB2
  have b2 := hB1.trans (hB2.mono hB1.size)
  clear hB1 hB2 f1
  go_wp2_with fail
  refine (HB.out _ f2).mono ?_
  rintro e w3 ⟨⟨b', o', n', cap', rfl, r3⟩, hB3⟩
  have r23 := r2.below hB3
  have f3 := f2.below hB3
  have b3 := b2.trans (hB3.mono b2.size)
  clear b2 hB3 f2 r2
  go_wp2_with fail
  refine (HC.out _ f3).mono ?_
  rintro e w4 ⟨⟨b4', o4, n4, cap4, rfl, r4⟩, hB4⟩
  have r24 := r23.below hB4
  have r34 := r3.below hB4
  have f4 := f3.below hB4
  have b4 := b3.trans (hB4.mono b3.size)
  obtain rfl : k + 1 = n := by have := r24.len; have := HLA.out; omega
  obtain rfl : tb.size = n' := by have := r34.len; have := HLB.out; omega
  obtain rfl : tc.size = n4 := by have := r4.len; have := HLC.out; omega
  have R4 := Lib.hid r4
  clear r4
  rw [hcs'] at R4 ⊢
  generalize tb.size = m at *
  have en : IntKind.i64.wrap (((k + 1 : Nat) : Int) + (m : Int)) = ((k + 1 : Nat) : Int) + (m : Int) := by simp [IntKind.wrap, IntKind.signed, IntKind.bits]; omega
  have g100 : ((100 : Int) < ((k + 1 : Nat) : Int) + (m : Int)) = False := by simp; omega
  clear b3 hB4 f3 r23 r3
  go_wp2_with fail
  refine (HGA.out _ _ _ _ _ r24).mono ?_
  rintro e w5 ⟨rfl, hB5⟩
  have r25 := r24.below hB5
  have R5 := Lib.hid (R4.out.below hB5)
  have f5 := f4.below hB5
  have r35 := r34.below hB5
  have b5 := b4.trans (hB5.mono b4.size)
  clear b4 hB5 r24 r34 R4 f4
  go_wp2_with fail
  refine (HGB.out _ _ _ _ _ r35).mono ?_
  rintro e w6 ⟨rfl, hB6⟩
  have r26 := r25.below hB6
  have r36 := r35.below hB6
  have R6 := Lib.hid (R5.out.below hB6)
  have f6 := f5.below hB6
  have b6 := b5.trans (hB6.mono b5.size)
  clear b5 hB6 r35 r25 R5 f5
  obtain ⟨kd, hkd⟩ : ∃ kd, kd = (ta.root 0).kind := ⟨_, rfl⟩
  rw [← hkd] at hk5
  have d0 : w6.cell? ⟨b, o + k * 10, none⟩ = some (.int .i64 kd) := by
   have := r26.x.cell k _ HRT.out 0 (.int .i64 (ta.root 0).kind) rfl
   rw [← hkd] at this
   simpa using this
  have R36 := Lib.hid r36
  have R26 := Lib.hid r26
  clear r36 r26 hkd
  go_wp2_with fail
  refine (TC.out _ _ _ _ _ f6 R6.out).mono ?_
  rintro e w7 ⟨rfl, hB7⟩
  have R27 := Lib.hid (R26.out.below hB7)
  have R37 := Lib.hid (R36.out.below hB7)
  have f7 := f6.below hB7
  have b7 := b6.trans (hB7.mono b6.size)
  clear b6 hB7 R26 R36 f6 R6 d0
  go_wp2_with fail
  refine (TA.out _ _ _ _ _ f7 R27.out).mono ?_
  rintro e w8 ⟨rfl, hB8⟩
  have R38 := Lib.hid (R37.out.below hB8)
  have f8 := f7.below hB8
  have b8 := b7.trans (hB8.mono b7.size)
  clear b7 hB8 R27 R37 f7
  go_wp2_with fail
  refine (TB.out _ _ _ _ _ f8 R38.out).mono ?_
  rintro e w9 ⟨rfl, hB9⟩
  have b9 := b8.trans (hB9.mono b8.size)
  clear b8 hB9 R38 f8
  go_wp2
  go_ret
  exact ⟨rfl, b9⟩
theorem ereAltsB (s t : ByteArray) (w : World) (_ : s.size ≤ Go.reachBytes) (_ : t.size ≤ Go.reachBytes) (hw : Fit5 w) :
  Calls Tryz.prog 7 #[.string s, .string t] w fun e w' => e = .returned (.bool true) ∧ Below w.heap.size w w' := by
 have e1 : s = ⟨s.data.toList.toArray⟩ := by simp
 have e2 : t = ⟨t.data.toList.toArray⟩ := by simp
 rw [e1, e2]
 generalize s.data.toList = u
 generalize t.data.toList = v
 by_cases h : 60 < u.length ∨ 60 < v.length ∨ u = [] ∨ v = []
 ·exact ealts_out u v h w hw
 ·have h1 : u.length ≤ 60 := by omega
  have h2 : v.length ≤ 60 := by omega
  have h3 : u ≠ [] := fun e => h (.inr (.inr (.inl e)))
  have h4 : v ≠ [] := fun e => h (.inr (.inr (.inr e)))
  cases hu : ereP u with
  | error e => exact ealts_er u v h1 h2 h3 h4 (.inl ⟨e.1, e.2, hu⟩) w hw
  | ok lu =>
   cases hv : ereP v with
   | error e => exact ealts_er u v h1 h2 h3 h4 (.inr ⟨⟨lu, hu⟩, e.1, e.2, hv⟩) w hw
   | ok lv =>
    obtain ⟨ta, ha, ka, _⟩ := tree_of_ere h3 hu
    obtain ⟨tb, hb, kb, _⟩ := tree_of_ere h4 hv
    by_cases g : 9 < grp ta + grp tb
    ·exact ealts_much u v h1 h2 h3 h4 ha hb ka kb (.inl g) w hw
    ·by_cases z : 100 < ta.size + tb.size
     ·exact ealts_much u v h1 h2 h3 h4 ha hb ka kb (.inr ⟨by omega, z⟩) w hw
     ·exact ealts_both u v h1 h2 h3 h4 ha hb (by omega) (by omega) w hw
end Go.Proofs.YtdjcgjkbecncaaaGreatDoor
