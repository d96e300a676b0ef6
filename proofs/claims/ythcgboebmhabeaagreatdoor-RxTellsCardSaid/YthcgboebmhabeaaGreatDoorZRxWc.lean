/- RxTells: the walk. -/
import Derived.Test.YthcgboebmhabeaaGreatDoorZRxWb
import Derived.Test.YthcgboebmhabeaaGreatDoorZRxFo
import Derived.Test.YthcgboebmhabeaaGreatDoorZRxSm
namespace Go.Proofs.YthcgboebmhabeaaGreatDoor
open Go.RowKit
set_option linter.unusedVariables false
set_option linter.unusedSimpArgs false

theorem nodes_none (w : World) : Nodes w none 0 [] := ⟨rfl, by omega, fun h => absurd h (by omega), fun h => absurd h (by omega), fun i x h => by simp at h⟩

set_option maxRecDepth 100000 in
set_option maxHeartbeats 4000000 in
theorem tells_wide (p : Option Addr) (n cap : Nat) (xs : List Nd) (hn : 130 < n) (w : World) (h : Nodes w p n xs) (hw : Fit4 w) :
    Calls Tryz.prog 3 #[.slice p n cap] w fun e w' => e = .returned (.bool true) ∧ Below w.heap.size w w' := by
  have HS := Lib.hid (shown3_c w hw)
  have hs := h.small
  have h1 : (130 : Int) < n := by omega
  clear h
  go_enter Tryz.func3, Tryz.ntmps3
  go_wp2_with fail
  refine HS.out.mono ?_
  rintro e w1 ⟨rfl, hB1⟩
  go_wp2
  go_ret
  exact ⟨rfl, hB1⟩

set_option maxRecDepth 100000 in
set_option maxHeartbeats 8000000 in
theorem tells_none (p : Option Addr) (n cap : Nat) (xs : List Nd) (hn : n ≤ 130) (hp : ¬ ∃ t, IsPat xs t) (w : World) (h : Nodes w p n xs) (hw : Fit4 w) :
    Calls Tryz.prog 3 #[.slice p n cap] w fun e w' => e = .returned (.bool true) ∧ Below w.heap.size w w' := by
  have HS := Lib.hid (shown3_c w hw)
  have HI := Lib.hid fun w' h => its_n p n cap xs hn w' h
  have HM := Lib.hid fun w' h => may_n p n cap xs false ⟨fun h => absurd h (by decide), fun h => absurd h hp⟩ w' h
  have HRM := Lib.hid fun q cap w' h => rmay_c q n cap xs false ⟨fun h => absurd h (by decide), fun h => absurd h hp⟩ w' h
  have HG := Lib.hid fun w' h => groups_out p n cap xs hp w' h
  have HRG := Lib.hid fun q cap w' h => rgroups_c q n cap xs 0 (fun t ht => absurd ⟨t, ht⟩ hp) (fun _ => rfl) w' h
  have HR := Lib.hid fun w' h => refs_out p n cap xs hp w' h
  have HRR := Lib.hid fun q cap w' h => rrefs_c q n cap xs false (fun t ht => absurd ⟨t, ht⟩ hp) (fun _ => rfl) w' h
  have HT := Lib.hid fun w' h => text_out p n cap xs hp w' h
  have HRT := Lib.hid fun q cap w' h => rtext_out q n cap xs hp w' h
  have HF := Lib.hid fun w' h => fold_out p n cap xs hp w' h
  have HRF := Lib.hid fun q cap w' h => rfold_out q n cap xs hp w' h
  have HI0 := Lib.hid fun w' => its_n none 0 0 [] (by omega) w' (nodes_none w')
  have HE := Lib.hid fun q cap w' (h : Nodes w' q 0 []) => same_c q none 0 0 cap 0 [] [] true (by simp) w' h (nodes_none w')
  have HN := Lib.hid h
  have h1 : ((130 : Int) < n) = False := by simp; omega
  clear hp h
  go_enter Tryz.func3, Tryz.ntmps3
  go_wp2_with fail
  refine HS.out.mono ?_
  rintro e w1 ⟨rfl, hB1⟩
  have hN1 := HN.out.below hB1
  clear HS HN
  go_wp2_with fail
  refine (HI.out w1 hN1).mono ?_
  rintro e w2 ⟨⟨q, cap2, rfl, hQ2⟩, hB2⟩
  have hN2 := hN1.below hB2
  have hB12 := hB1.trans (hB2.mono hB1.size)
  clear HI hB1 hB2 hN1
  go_wp2_with fail
  refine (HM.out w2 hN2).mono ?_
  rintro e w3 ⟨rfl, hB3⟩
  have hN3 := hN2.below hB3
  have hQ3 := hQ2.below hB3
  have hB13 := hB12.trans (hB3.mono hB12.size)
  clear HM hB12 hB3 hN2 hQ2
  go_wp2_with fail
  refine (HRM.out q cap2 w3 hQ3).mono ?_
  rintro e w4 ⟨rfl, hB4⟩
  have hN4 := hN3.below hB4
  have hQ4 := hQ3.below hB4
  have hB14 := hB13.trans (hB4.mono hB13.size)
  clear HRM hB13 hB4 hN3 hQ3
  go_wp2_with fail
  refine (HG.out w4 hN4).mono ?_
  rintro e w5 ⟨rfl, hB5⟩
  have hN5 := hN4.below hB5
  have hQ5 := hQ4.below hB5
  have hB15 := hB14.trans (hB5.mono hB14.size)
  clear HG hB14 hB5 hN4 hQ4
  go_wp2_with fail
  refine (HRG.out q cap2 w5 hQ5).mono ?_
  rintro e w6 ⟨rfl, hB6⟩
  have hN6 := hN5.below hB6
  have hQ6 := hQ5.below hB6
  have hB16 := hB15.trans (hB6.mono hB15.size)
  clear HRG hB15 hB6 hN5 hQ5
  go_wp2_with fail
  refine (HR.out w6 hN6).mono ?_
  rintro e w7 ⟨rfl, hB7⟩
  have hN7 := hN6.below hB7
  have hQ7 := hQ6.below hB7
  have hB17 := hB16.trans (hB7.mono hB16.size)
  clear HR hB16 hB7 hN6 hQ6
  go_wp2_with fail
  refine (HRR.out q cap2 w7 hQ7).mono ?_
  rintro e w8 ⟨rfl, hB8⟩
  have hN8 := hN7.below hB8
  have hQ8 := hQ7.below hB8
  have hB18 := hB17.trans (hB8.mono hB17.size)
  clear HRR hB17 hB8 hN7 hQ7
  go_wp2_with fail
  refine (HT.out w8 hN8).mono ?_
  rintro e w9 ⟨rfl, hB9⟩
  have hN9 := hN8.below hB9
  have hQ9 := hQ8.below hB9
  have hB19 := hB18.trans (hB9.mono hB18.size)
  clear HT hB18 hB9 hN8 hQ8
  go_wp2_with fail
  refine (HRT.out q cap2 w9 hQ9).mono ?_
  rintro e w10 ⟨rfl, hB10⟩
  have hN10 := hN9.below hB10
  have hQ10 := hQ9.below hB10
  have hB110 := hB19.trans (hB10.mono hB19.size)
  clear HRT hB19 hB10 hN9 hQ9
  go_wp2_with fail
  refine (HF.out w10 hN10).mono ?_
  rintro e w11 ⟨rfl, hB11⟩
  have hQ11 := hQ10.below hB11
  have hB111 := hB110.trans (hB11.mono hB110.size)
  clear HF hB110 hB11 hN10 hQ10
  go_wp2_with fail
  refine (HI0.out w11).mono ?_
  rintro e w12 ⟨⟨q12, cap12, rfl, hQ12⟩, hB12'⟩
  have hQ11' := hQ11.below hB12'
  have hB112 := hB111.trans (hB12'.mono hB111.size)
  clear HI0 hB111 hB12' hQ11
  go_wp2_with fail
  refine (HRF.out q cap2 w12 hQ11').mono ?_
  rintro e w13 ⟨rfl, hB13'⟩
  have hQ13 := hQ12.below hB13'
  have hB113 := hB112.trans (hB13'.mono hB112.size)
  clear HRF hB112 hB13' hQ12 hQ11'
  go_wp2_with fail
  refine (HE.out q12 cap12 w13 hQ13).mono ?_
  rintro e w14 ⟨rfl, hB14'⟩
  have hB114 := hB113.trans (hB14'.mono hB113.size)
  clear HE hB113 hB14'
  go_wp2
  go_ret
  exact ⟨rfl, hB114⟩

set_option maxRecDepth 100000 in
set_option maxHeartbeats 8000000 in
theorem tells_pat (b o n cap : Nat) (xs : List Nd) (hlen : xs.length = n) (t : T) (hp : IsPat xs t) (hfit : ∀ (i : Nat) (x : Nd), xs[i]? = some x → x.Fits) (w : World) (hx : NodesAt w b o xs) (hw : Fit4 w) :
    Calls Tryz.prog 3 #[.slice (some ⟨b, o, none⟩) n cap] w fun e w' => e = .returned (.bool true) ∧ Below w.heap.size w w' := by
  have h120 : n ≤ 120 := by have := hp.2.2.2.1; omega
  have h1 : 1 ≤ n := by have := t.size_pos; have := hp.2.2.1; omega
  have hff := fits_fold hfit
  have hlf : (xs.map foldNd).length = n := by rw [List.length_map, hlen]
  have hone : ∀ t', IsPat xs t' → t' = t := fun t' ht' => pat_one ht' hp
  have HS := Lib.hid (shown3_c w hw)
  have HI := Lib.hid fun w' hx => its_n (some ⟨b, o, none⟩) n cap xs (by omega) w' (nodes_of_at hlen (by omega) hfit hx)
  have HM := Lib.hid fun w' hx => may_n (some ⟨b, o, none⟩) n cap xs true ⟨fun _ => ⟨t, hp⟩, fun _ => rfl⟩ w' (nodes_of_at hlen (by omega) hfit hx)
  have HRM := Lib.hid fun q cap w' h => rmay_c q n cap xs true ⟨fun _ => ⟨t, hp⟩, fun _ => rfl⟩ w' h
  have HG := Lib.hid fun w' hx => groups_t b o n cap xs hlen h120 hfit t hp w' hx
  have HRG := Lib.hid fun q cap w' h => rgroups_c q n cap xs t.groups (fun t' ht' => by rw [hone t' ht']) (fun h => absurd ⟨t, hp⟩ h) w' h
  have HR := Lib.hid fun w' hx => refs_t b o n cap xs hlen h120 hfit t hp w' hx
  have HRR := Lib.hid fun q cap w' h => rrefs_c q n cap xs (decide (0 < t.refs)) (fun t' ht' => by rw [hone t' ht']; simp) (fun h => absurd ⟨t, hp⟩ h) w' h
  have HT := Lib.hid fun w' hf hx => text_in b o n cap xs hlen h1 h120 hfit t hp w' hf hx
  have HRT := Lib.hid fun q o cap w' hx => rtext_in q o n cap xs hlen t hp hfit w' hx
  have HF := Lib.hid fun w' hf hx => fold_pat b o n cap xs hlen h1 h120 hfit ⟨t, hp⟩ w' hf hx
  have HRF := Lib.hid fun q o cap w' hx => rfold_pat q o n cap xs hlen h1 h120 hfit ⟨t, hp⟩ w' hx
  have HI0 := Lib.hid fun g cap w' hx => its_n (some ⟨g, 0, none⟩) n cap (xs.map foldNd) (by omega) w' (nodes_of_at hlf (by omega) hff hx)
  have HE := Lib.hid fun q g cap cap' w' (h : Nodes w' q n (xs.map foldNd)) hx => same_c q (some ⟨g, 0, none⟩) n n cap cap' (xs.map foldNd) (xs.map foldNd) true (by simp) w' h (nodes_of_at hlf (by omega) hff hx)
  have hn1 : ((130 : Int) < n) = False := by simp; omega
  have HL := Lib.hid hlen
  clear hp hff hlf hone hfit
  generalize text t = tt at *
  generalize t.groups = G at *
  generalize decide (0 < t.refs) = R at *
  have hRR : (R == R) = true := by simp
  have lb := hx.lt
  go_enter Tryz.func3, Tryz.ntmps3
  go_wp2_with fail
  refine HS.out.mono ?_
  rintro e w1 ⟨rfl, hB1⟩
  have hx1 := hx.below hB1 lb
  have hw1 := hw.below hB1
  clear HS hx hw
  go_wp2_with fail
  refine (HI.out w1 hx1).mono ?_
  rintro e w2 ⟨⟨q, cap2, rfl, hQ2⟩, hB2⟩
  obtain ⟨qb, qo, rfl⟩ := hQ2.ptr h1
  have hx2 := hx1.below hB2 hx1.lt
  have hw2 := hw1.below hB2
  have hB12 := hB1.trans (hB2.mono hB1.size)
  clear HI hB1 hB2 hx1 hw1
  go_wp2_with fail
  refine (HM.out w2 hx2).mono ?_
  rintro e w3 ⟨rfl, hB3⟩
  have hx3 := hx2.below hB3 hx2.lt
  have hw3 := hw2.below hB3
  have hQ3 := hQ2.below hB3
  have hB13 := hB12.trans (hB3.mono hB12.size)
  clear HM hB12 hB3 hx2 hw2 hQ2
  go_wp2_with fail
  refine (HRM.out _ cap2 w3 hQ3).mono ?_
  rintro e w4 ⟨rfl, hB4⟩
  have hx4 := hx3.below hB4 hx3.lt
  have hw4 := hw3.below hB4
  have hQ4 := hQ3.below hB4
  have hB14 := hB13.trans (hB4.mono hB13.size)
  clear HRM hB13 hB4 hx3 hw3 hQ3
  go_wp2_with fail
  refine (HG.out w4 hx4).mono ?_
  rintro e w5 ⟨rfl, hB5⟩
  have hx5 := hx4.below hB5 hx4.lt
  have hw5 := hw4.below hB5
  have hQ5 := hQ4.below hB5
  have hB15 := hB14.trans (hB5.mono hB14.size)
  clear HG hB14 hB5 hx4 hw4 hQ4
  go_wp2_with fail
  refine (HRG.out _ cap2 w5 hQ5).mono ?_
  rintro e w6 ⟨rfl, hB6⟩
  have hx6 := hx5.below hB6 hx5.lt
  have hw6 := hw5.below hB6
  have hQ6 := hQ5.below hB6
  have hB16 := hB15.trans (hB6.mono hB15.size)
  clear HRG hB15 hB6 hx5 hw5 hQ5
  go_wp2_with fail
  refine (HR.out w6 hx6).mono ?_
  rintro e w7 ⟨rfl, hB7⟩
  have hx7 := hx6.below hB7 hx6.lt
  have hw7 := hw6.below hB7
  have hQ7 := hQ6.below hB7
  have hB17 := hB16.trans (hB7.mono hB16.size)
  clear HR hB16 hB7 hx6 hw6 hQ6
  go_wp2_with fail
  refine (HRR.out _ cap2 w7 hQ7).mono ?_
  rintro e w8 ⟨rfl, hB8⟩
  have hx8 := hx7.below hB8 hx7.lt
  have hw8 := hw7.below hB8
  have hQ8 := hQ7.below hB8
  have hB18 := hB17.trans (hB8.mono hB17.size)
  clear HRR hB17 hB8 hx7 hw7 hQ7
  go_wp2_with fail
  refine (HT.out w8 hw8.f hx8).mono ?_
  rintro e w9 ⟨rfl, hB9⟩
  have hx9 := hx8.below hB9 hx8.lt
  have hw9 := hw8.below hB9
  have hQ9 := hQ8.below hB9
  have hB19 := hB18.trans (hB9.mono hB18.size)
  clear HT hB18 hB9 hx8 hw8 hQ8
  go_wp2_with fail
  refine (HRT.out qb qo cap2 w9 (hQ9.at' h1 qb qo rfl)).mono ?_
  rintro e w10 ⟨rfl, hB10⟩
  have hx10 := hx9.below hB10 hx9.lt
  have hw10 := hw9.below hB10
  have hQ10 := hQ9.below hB10
  have hB110 := hB19.trans (hB10.mono hB19.size)
  clear HRT hB19 hB10 hx9 hw9 hQ9
  go_wp2_with fail
  refine (HF.out w10 hw10.f.fit hx10).mono ?_
  rintro e w11 ⟨⟨g, cap11, rfl, hg, hr⟩, hB11⟩
  have hX11 := hr.at HL.out
  have hQ11 := hQ10.below hB11
  have hB111 := hB110.trans (hB11.mono hB110.size)
  clear HF hB110 hB11 hx10 hQ10 hr hg hw10
  go_wp2_with fail
  refine (HI0.out g cap11 w11 hX11).mono ?_
  rintro e w12 ⟨⟨q12, cap12, rfl, hQ12⟩, hB12'⟩
  have hQ11' := hQ11.below hB12'
  have hB112 := hB111.trans (hB12'.mono hB111.size)
  clear HI0 hB111 hB12' hQ11 hX11
  go_wp2_with fail
  refine (HRF.out qb qo cap2 w12 (hQ11'.at' h1 qb qo rfl)).mono ?_
  rintro e w13 ⟨⟨g13, cap13, rfl, hg13, hr13⟩, hB13'⟩
  have hX13 := hr13.at HL.out
  have hQ13 := hQ12.below hB13'
  have hB113 := hB112.trans (hB13'.mono hB112.size)
  clear HRF hB112 hB13' hQ12 hQ11' hr13 hg13
  go_wp2_with fail
  refine (HE.out q12 g13 cap12 cap13 w13 hQ13 hX13).mono ?_
  rintro e w14 ⟨rfl, hB14'⟩
  have hB114 := hB113.trans (hB14'.mono hB113.size)
  clear HE hB113 hB14'
  go_wp2
  go_ret
  exact ⟨rfl, hB114⟩

theorem rxTellsW (p : Option Addr) (n cap : Nat) (xs : List Nd) (w : World) (h : Nodes w p n xs) (hw : Fit4 w) :
    Calls Tryz.prog 3 #[.slice p n cap] w fun e w' => e = .returned (.bool true) ∧ Below w.heap.size w w' := by
  by_cases hn : n ≤ 130
  · by_cases hp : ∃ t, IsPat xs t
    · obtain ⟨t, ht⟩ := hp
      have h1 : 1 ≤ n := by have := t.size_pos; have := ht.2.2.1; have := h.len; omega
      obtain ⟨b, o, rfl⟩ := h.ptr h1
      exact tells_pat b o n cap xs h.len t ht h.fits w (h.at' h1 b o rfl) hw
    · exact tells_none p n cap xs hn hp w h hw
  · exact tells_wide p n cap xs (by omega) w h hw

end Go.Proofs.YthcgboebmhabeaaGreatDoor
