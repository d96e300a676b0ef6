/- RxFolds: the walk. -/
import Derived.Test.YtfkidgbjjlgjdaaDoorZRxTs
import Derived.Test.YtfkidgbjjlgjdaaDoorZRxFp
import Derived.Test.YtfkidgbjjlgjdaaDoorZRxBk
import Derived.Deep.RegionHeld3
namespace Go.Proofs.YtfkidgbjjlgjdaaDoor
open Go.RowKit
set_option linter.unusedVariables false
set_option linter.unusedSimpArgs false

set_option maxRecDepth 100000 in
set_option maxHeartbeats 4000000 in
theorem folds_wide (p : Option Addr) (n cap : Nat) (xs : List Nd) (hn : 130 < n) (w : World) (h : Nodes w p n xs) (hw : Fit4 w) :
    Calls Tryd.prog 5 #[.slice p n cap] w fun e w' => e = .returned (.bool true) ∧ Below w.heap.size w w' := by
  have HS := Lib.hid (shown3_c w hw)
  have hs := h.small
  have h1 : (130 : Int) < n := by omega
  clear h
  go_enter Tryd.func5, Tryd.ntmps5
  go_wp2_with fail
  refine HS.out.mono ?_
  rintro e w1 ⟨rfl, hB1⟩
  go_wp2
  go_ret
  exact ⟨rfl, hB1⟩

set_option maxRecDepth 100000 in
set_option maxHeartbeats 4000000 in
theorem folds_none (p : Option Addr) (n cap : Nat) (xs : List Nd) (hn : n ≤ 130) (hp : ¬ ∃ t, IsPat xs t) (w : World) (h : Nodes w p n xs) (hw : Fit4 w) :
    Calls Tryd.prog 5 #[.slice p n cap] w fun e w' => e = .returned (.bool true) ∧ Below w.heap.size w w' := by
  have HM := Lib.hid (may_n p n cap xs false ⟨fun h => absurd h (by decide), fun h => absurd h hp⟩ w h)
  have HS := Lib.hid fun w' hB => shown3_c w' (hw.below hB)
  have h1 : ((130 : Int) < n) = False := by simp; omega
  clear h hp
  go_enter Tryd.func5, Tryd.ntmps5
  go_wp2_with fail
  refine HM.out.mono ?_
  rintro e w1 ⟨rfl, hB1⟩
  go_wp2_with fail
  refine (HS.out w1 hB1).mono ?_
  rintro e w2 ⟨rfl, hB2⟩
  go_wp2
  go_ret
  exact ⟨rfl, hB1.trans (hB2.mono hB1.size)⟩

/-- Groups and Refs of a pattern, by its tree. -/
theorem groups_t (b o n cap : Nat) (xs : List Nd) (hlen : xs.length = n) (hn : n ≤ 120) (hfit : ∀ (i : Nat) (x : Nd), xs[i]? = some x → x.Fits) (t : T) (hp : IsPat xs t) (w : World) (hx : NodesAt w b o xs) :
    Calls Tryd.prog 16 #[.slice (some ⟨b, o, none⟩) n cap] w fun e w' => e = .returned (.int .i64 t.groups) ∧ Below w.heap.size w w' := by
  have h1 : 1 ≤ n := by have := t.size_pos; have := hp.2.2.1; omega
  have h := groups_in b o n cap xs hlen h1 hn hfit ⟨t, hp⟩ w hx
  obtain ⟨tn1, _⟩ := tree_nodes t 0 hp.1 hp.2.1
  rw [Nat.zero_add, hp.2.2.1, hlen] at tn1
  have g0 : gcnt xs 0 = 0 := rfl
  rw [tn1, g0, Nat.zero_add] at h
  exact h
theorem refs_t (b o n cap : Nat) (xs : List Nd) (hlen : xs.length = n) (hn : n ≤ 120) (hfit : ∀ (i : Nat) (x : Nd), xs[i]? = some x → x.Fits) (t : T) (hp : IsPat xs t) (w : World) (hx : NodesAt w b o xs) :
    Calls Tryd.prog 17 #[.slice (some ⟨b, o, none⟩) n cap] w fun e w' => e = .returned (.bool (decide (0 < t.refs))) ∧ Below w.heap.size w w' := by
  have h1 : 1 ≤ n := by have := t.size_pos; have := hp.2.2.1; omega
  obtain ⟨_, tn2⟩ := tree_nodes t 0 hp.1 hp.2.1
  rw [Nat.zero_add, hp.2.2.1, hlen] at tn2
  have hany : anyRef xs n ↔ 0 < t.refs := by
    rw [tn2]
    constructor
    · rintro (⟨i, x, h1, h2⟩ | h)
      · omega
      · exact h
    · exact .inr
  exact refs_in b o n cap xs hlen h1 hn hfit ⟨t, hp⟩ (decide (0 < t.refs)) (by rw [hany]; simp) w hx

/-- What holds while the sets are held against each other. -/
structure FoS (w : World) (b o g : Nat) (xs : List Nd) (w' : World) : Prop where
  x : NodesAt w' b o xs
  f : NodesAt w' g 0 (xs.map foldNd)
  b : Below w.heap.size w w'
theorem FoS.step {w w1 w2 : World} {b o g : Nat} {xs : List Nd} (h : FoS w b o g xs w1) (hB : Below w1.heap.size w1 w2) : FoS w b o g xs w2 :=
  ⟨h.x.below hB h.x.lt, h.f.below hB h.f.lt, h.b.trans (hB.mono h.b.size)⟩
theorem FoS.drew {w w1 : World} {b o g : Nat} {xs : List Nd} (h : FoS w b o g xs w1) : FoS w b o g xs w1.drew := h.step ((Below.refl _ _).drew)
theorem FoS.alloc {w w1 : World} {b o g : Nat} {xs : List Nd} (h : FoS w b o g xs w1) (ob : Obj) : FoS w b o g xs (w1.alloc ob) := h.step ((Below.refl _ _).alloc (Nat.le_refl _) ob)
theorem or_fold (s : Nat → Bool) (B cap : Nat) (w : World) (hb : w.heap[B]? = some (.cells #[.int .u64 (wd s 0), .int .u64 (wd s 1), .int .u64 (wd s 2), .int .u64 (wd s 3), .int .u64 (wd (foldF s) 0), .int .u64 (wd (foldF s) 1), .int .u64 (wd (foldF s) 2), .int .u64 (wd (foldF s) 3)] 39 (0, 0))) :
    Calls Tryd.prog 18 #[.slice (some ⟨B, 0, none⟩) 2 cap] w fun e w' => e = .returned (.agg #[.int .u64 (wd (foldF s) 0), .int .u64 (wd (foldF s) 1), .int .u64 (wd (foldF s) 2), .int .u64 (wd (foldF s) 3)]) ∧ Below w.heap.size w w' := by
  have h := or2_c s (foldF s) B cap w 39 hb
  rw [show (fun i => s i || foldF s i) = foldF s from funext fun i => by unfold foldF; cases s i <;> simp] at h
  exact h

set_option maxRecDepth 100000 in
set_option maxHeartbeats 8000000 in
theorem folds_pat (b o n cap : Nat) (xs : List Nd) (hlen : xs.length = n) (t : T) (hp : IsPat xs t) (hfit : ∀ (i : Nat) (x : Nd), xs[i]? = some x → x.Fits) (w : World) (hx : NodesAt w b o xs) (hw : Fit4 w) :
    Calls Tryd.prog 5 #[.slice (some ⟨b, o, none⟩) n cap] w fun e w' => e = .returned (.bool true) ∧ Below w.heap.size w w' := by
  have h120 : n ≤ 120 := by have := hp.2.2.2.1; omega
  have h1 : 1 ≤ n := by have := t.size_pos; have := hp.2.2.1; omega
  have hpf := pat_fold hp hfit
  have hff := fits_fold hfit
  have hlf : (xs.map foldNd).length = n := by rw [List.length_map, hlen]
  have HS := Lib.hid fun w' hB => shown3_c w' (hw.below hB)
  have HM := Lib.hid fun w' hx => may_n (some ⟨b, o, none⟩) n cap xs true ⟨fun _ => ⟨t, hp⟩, fun _ => rfl⟩ w' (nodes_of_at hlen (by omega) hfit hx)
  have HMf := Lib.hid fun g cap w' hx => may_n (some ⟨g, 0, none⟩) n cap (xs.map foldNd) true ⟨fun _ => ⟨t.fold, hpf⟩, fun _ => rfl⟩ w' (nodes_of_at hlf (by omega) hff hx)
  have HF := Lib.hid fun w' hf hx => fold_pat b o n cap xs hlen h1 h120 hfit ⟨t, hp⟩ w' hf hx
  have HFf := Lib.hid fun g cap w' hf hx => fold_pat g 0 n cap (xs.map foldNd) hlf h1 h120 hff ⟨t.fold, hpf⟩ w' hf hx
  have HG := Lib.hid fun w' hx => groups_t b o n cap xs hlen h120 hfit t hp w' hx
  have hgf := fun g cap w' hx => groups_t g 0 n cap (xs.map foldNd) hlf h120 hff t.fold hpf w' hx
  rw [T.fold_groups] at hgf
  have HGf := Lib.hid hgf
  have HR := Lib.hid fun w' hx => refs_t b o n cap xs hlen h120 hfit t hp w' hx
  have hrf := fun g cap w' hx => refs_t g 0 n cap (xs.map foldNd) hlf h120 hff t.fold hpf w' hx
  rw [T.fold_refs] at hrf
  have HRf := Lib.hid hrf
  have HT := Lib.hid fun g cap w' hf hx => text_in g 0 n cap (xs.map foldNd) hlf h1 h120 hff t.fold hpf w' hf hx
  have hn1 : ((130 : Int) < n) = False := by simp; omega
  have HFit := Lib.hid hfit
  clear hp hpf hff hlf hgf hrf hfit
  generalize text t.fold = tt at *
  generalize t.groups = G at *
  generalize decide (0 < t.refs) = R at *
  have hRR : (R == R) = true := by simp
  have lb := hx.lt
  go_enter Tryd.func5, Tryd.ntmps5
  go_wp2_with fail
  refine (HM.out w hx).mono ?_
  rintro e w1 ⟨rfl, hB1⟩
  clear HM
  go_wp2_with fail
  refine (HS.out w1 hB1).mono ?_
  rintro e w2 ⟨rfl, hB2⟩
  have hB12 := hB1.trans (hB2.mono hB1.size)
  clear HS hB1 hB2
  go_wp2_with fail
  refine (HF.out w2 (hw.below hB12).f.fit (hx.below hB12 lb)).mono ?_
  rintro e w3 ⟨⟨g, cap3, rfl, hg, hr⟩, hB3⟩
  have hS3 : FoS w b o g xs w3 := ⟨(hx.below hB12 lb).below hB3 (hx.below hB12 lb).lt, hr.at hlen, hB12.trans (hB3.mono hB12.size)⟩
  clear HF hr hg hB12 hB3
  go_wp2_with fail
  refine (HMf.out g cap3 w3 hS3.f).mono ?_
  rintro e w4 ⟨rfl, hB4⟩
  have hS4 := hS3.step hB4
  clear HMf hS3 hB4
  go_wp2_with fail
  refine (HGf.out g cap3 w4 hS4.f).mono ?_
  rintro e w5 ⟨rfl, hB5⟩
  have hS5 := hS4.step hB5
  clear HGf hS4 hB5
  go_wp2_with fail
  refine (HG.out w5 hS5.x).mono ?_
  rintro e w6 ⟨rfl, hB6⟩
  have hS6 := hS5.step hB6
  clear HG hS5 hB6
  go_wp2_with fail
  refine (HRf.out g cap3 w6 hS6.f).mono ?_
  rintro e w7 ⟨rfl, hB7⟩
  have hS7 := hS6.step hB7
  clear HRf hS6 hB7
  go_wp2_with fail
  refine (HR.out w7 hS7.x).mono ?_
  rintro e w8 ⟨rfl, hB8⟩
  have hS8 := hS7.step hB8
  clear HR hS7 hB8
  go_wp2_with fail
  refine (HFf.out g cap3 w8 (hw.below hS8.b).f.fit hS8.f).mono ?_
  rintro e w9 ⟨⟨g2, cap9, rfl, hg2, hr9⟩, hB9⟩
  have hS9 := hS8.step hB9
  have hx9 := hr9.at (by rw [List.length_map, hlen])
  rw [fold_fold] at hx9
  clear HFf hS8 hB9 hr9 hg2
  go_wp2_with fail
  refine (HT.out g2 cap9 w9 (hw.below hS9.b).f hx9).mono ?_
  rintro e w10 ⟨rfl, hB10⟩
  have hS10 := hS9.step hB10
  clear hS9 hB10 hx9
  go_wp2_with fail
  refine (HT.out g cap3 w10 (hw.below hS10.b).f hS10.f).mono ?_
  rintro e w11 ⟨rfl, hB11⟩
  have hS11 := hS10.step hB11
  clear hS10 hB11 HT
  go_wp2
  go_loopw [4] (fun i wr => ∃ k : Nat, k ≤ n ∧ i = .int .i64 k ∧ FoS w b o g xs wr) (fun i _ => n - (RowKit.intOf i).toNat)
  case atStart => exact ⟨0, by omega, rfl, hS11⟩
  case round =>
    clear hS11
    obtain ⟨k, hk, rfl, hS⟩ := hrel
    by_cases hlt : k < n
    · obtain ⟨x, hxk⟩ : ∃ x, xs[k]? = some x := ⟨xs[k]'(by omega), List.getElem?_eq_getElem (by omega)⟩
      obtain ⟨a0, a1, a2, a3⟩ := ofWords_wd (HFit.out k x hxk).s0 (HFit.out k x hxk).s1 (HFit.out k x hxk).s2 (HFit.out k x hxk).s3
      have hfk : (xs.map foldNd)[k]? = some (foldNd x) := by rw [List.getElem?_map, hxk]; rfl
      obtain ⟨s, hs⟩ : ∃ s, s = x.set := ⟨_, rfl⟩
      have q1 : ∀ w', FoS w b o g xs w' → w'.cell? ⟨b, o + k * 10 + 1, none⟩ = some (.int .u64 (wd s 0)) := fun w' h => by rw [hs, set_eq, a0]; exact h.x.cell k x hxk 1 _ rfl
      have q2 : ∀ w', FoS w b o g xs w' → w'.cell? ⟨b, o + k * 10 + 2, none⟩ = some (.int .u64 (wd s 1)) := fun w' h => by rw [hs, set_eq, a1]; exact h.x.cell k x hxk 2 _ rfl
      have q3 : ∀ w', FoS w b o g xs w' → w'.cell? ⟨b, o + k * 10 + 3, none⟩ = some (.int .u64 (wd s 2)) := fun w' h => by rw [hs, set_eq, a2]; exact h.x.cell k x hxk 3 _ rfl
      have q4 : ∀ w', FoS w b o g xs w' → w'.cell? ⟨b, o + k * 10 + 4, none⟩ = some (.int .u64 (wd s 3)) := fun w' h => by rw [hs, set_eq, a3]; exact h.x.cell k x hxk 4 _ rfl
      have r1 : ∀ w', FoS w b o g xs w' → w'.cell? ⟨g, k * 10 + 1, none⟩ = some (.int .u64 (wd (foldF s) 0)) := fun w' h => by rw [hs]; have := h.f.cell k _ hfk 1 (.int .u64 (wd (foldF x.set) 0)) (by rw [foldNd_eq]; rfl); rwa [Nat.zero_add] at this
      have r2 : ∀ w', FoS w b o g xs w' → w'.cell? ⟨g, k * 10 + 2, none⟩ = some (.int .u64 (wd (foldF s) 1)) := fun w' h => by rw [hs]; have := h.f.cell k _ hfk 2 (.int .u64 (wd (foldF x.set) 1)) (by rw [foldNd_eq]; rfl); rwa [Nat.zero_add] at this
      have r3 : ∀ w', FoS w b o g xs w' → w'.cell? ⟨g, k * 10 + 3, none⟩ = some (.int .u64 (wd (foldF s) 2)) := fun w' h => by rw [hs]; have := h.f.cell k _ hfk 3 (.int .u64 (wd (foldF x.set) 2)) (by rw [foldNd_eq]; rfl); rwa [Nat.zero_add] at this
      have r4 : ∀ w', FoS w b o g xs w' → w'.cell? ⟨g, k * 10 + 4, none⟩ = some (.int .u64 (wd (foldF s) 3)) := fun w' h => by rw [hs]; have := h.f.cell k _ hfk 4 (.int .u64 (wd (foldF x.set) 3)) (by rw [foldNd_eq]; rfl); rwa [Nat.zero_add] at this
      have OR := Lib.hid fun B cap w' hb => or_fold s B cap w' hb
      have hes := fun w => eq_four Tryd.underlying39 (wd (foldF s) 0) (wd (foldF s) 1) (wd (foldF s) 2) (wd (foldF s) 3) w
      have hklen : (k : Int) < n := by omega
      have Q1 := Lib.hid q1; have Q2 := Lib.hid q2; have Q3 := Lib.hid q3; have Q4 := Lib.hid q4
      have R1 := Lib.hid r1; have R2 := Lib.hid r2; have R3 := Lib.hid r3; have R4 := Lib.hid r4
      clear q1 q2 q3 q4 r1 r2 r3 r4 hs hfk hxk a0 a1 a2 a3
      generalize foldF s = S at *
      go_wp2_with fail
      refine wp_region_noPanic ?_
      refine wp_region_held_drew (S := FoS w b o g xs) (by kernel_rfl) ?_ (fun hHeld => ?_)
      · (try dsimp only); exact hS.drew
      refine wpAnyH_take (i := 0) (v := ?_) rfl (by kernel_rfl) (by kernel_rfl) (by kernel_rfl) (fun _ _ _ h => h) (Or.inl ⟨by kernel_rfl, ?_⟩) (by assumption) ?_
      rotate_left
      · (intro w hSw; (try dsimp only at hSw); go_simp); (try with_reducible rfl)
      try simp only [Act.put, List.getElem_toArray, List.getElem_cons_succ, List.getElem_cons_zero, List.setIfInBounds_toArray, List.set_cons_zero, List.set_cons_succ]
      refine wpAnyH_take (i := 1) (v := ?_) rfl (by kernel_rfl) (by kernel_rfl) (by kernel_rfl) (fun _ _ _ h => h) (Or.inl ⟨by kernel_rfl, ?_⟩) (by assumption) ?_
      rotate_left
      · (intro w hSw; (try dsimp only at hSw); go_simp); (try with_reducible rfl)
      try simp only [Act.put, List.getElem_toArray, List.getElem_cons_succ, List.getElem_cons_zero, List.setIfInBounds_toArray, List.set_cons_zero, List.set_cons_succ]
      refine wpAnyH_take (i := 2) (v := ?_) rfl (by kernel_rfl) (by kernel_rfl) (by kernel_rfl) (fun _ _ _ h => h) (Or.inl ⟨by kernel_rfl, ?_⟩) (by assumption) ?_
      rotate_left
      · (intro w hSw; (try dsimp only at hSw); go_simp); (try with_reducible rfl)
      try simp only [Act.put, List.getElem_toArray, List.getElem_cons_succ, List.getElem_cons_zero, List.setIfInBounds_toArray, List.set_cons_zero, List.set_cons_succ]
      refine wpAnyH_take (i := 3) (v := ?_) rfl (by kernel_rfl) (by kernel_rfl) (by kernel_rfl) (fun _ _ _ h => h) (Or.inl ⟨by kernel_rfl, ?_⟩) (by assumption) ?_
      rotate_left
      · (intro w hSw; (try dsimp only at hSw); go_simp); (try with_reducible rfl)
      try simp only [Act.put, List.getElem_toArray, List.getElem_cons_succ, List.getElem_cons_zero, List.setIfInBounds_toArray, List.set_cons_zero, List.set_cons_succ]
      refine wpAnyH_take (i := 4) (v := ?_) rfl (by kernel_rfl) (by kernel_rfl) (by kernel_rfl) (fun _ _ _ h => h) (Or.inl ⟨by kernel_rfl, ?_⟩) (by assumption) ?_
      rotate_left
      · (intro w hSw; have z1 := Q1.out w hSw; have z2 := Q2.out w hSw; have z3 := Q3.out w hSw; have z4 := Q4.out w hSw; go_simp); (try with_reducible rfl)
      try simp only [Act.put, List.getElem_toArray, List.getElem_cons_succ, List.getElem_cons_zero, List.setIfInBounds_toArray, List.set_cons_zero, List.set_cons_succ]
      refine wpAnyH_take (i := 5) (v := ?_) rfl (by kernel_rfl) (by kernel_rfl) (by kernel_rfl) (fun _ _ _ h => h) (Or.inl ⟨by kernel_rfl, ?_⟩) (by assumption) ?_
      rotate_left
      · (intro w hSw; (try dsimp only at hSw); go_simp); (try with_reducible rfl)
      try simp only [Act.put, List.getElem_toArray, List.getElem_cons_succ, List.getElem_cons_zero, List.setIfInBounds_toArray, List.set_cons_zero, List.set_cons_succ]
      refine wpAnyH_take (i := 6) (v := ?_) rfl (by kernel_rfl) (by kernel_rfl) (by kernel_rfl) (fun _ _ _ h => h) (Or.inl ⟨by kernel_rfl, ?_⟩) (by assumption) ?_
      rotate_left
      · (intro w hSw; (try dsimp only at hSw); go_simp); (try with_reducible rfl)
      try simp only [Act.put, List.getElem_toArray, List.getElem_cons_succ, List.getElem_cons_zero, List.setIfInBounds_toArray, List.set_cons_zero, List.set_cons_succ]
      refine wpAnyH_take (i := 7) (v := ?_) rfl (by kernel_rfl) (by kernel_rfl) (by kernel_rfl) (fun _ _ _ h => h) (Or.inl ⟨by kernel_rfl, ?_⟩) (by assumption) ?_
      rotate_left
      · (intro w hSw; (try dsimp only at hSw); go_simp); (try with_reducible rfl)
      try simp only [Act.put, List.getElem_toArray, List.getElem_cons_succ, List.getElem_cons_zero, List.setIfInBounds_toArray, List.set_cons_zero, List.set_cons_succ]
      refine wpAnyH_take (i := 8) (v := ?_) rfl (by kernel_rfl) (by kernel_rfl) (by kernel_rfl) (fun _ _ _ h => h) (Or.inl ⟨by kernel_rfl, ?_⟩) (by assumption) ?_
      rotate_left
      · (intro w hSw; (try dsimp only at hSw); go_simp); (try with_reducible rfl)
      try simp only [Act.put, List.getElem_toArray, List.getElem_cons_succ, List.getElem_cons_zero, List.setIfInBounds_toArray, List.set_cons_zero, List.set_cons_succ]
      refine wpAnyH_take (i := 9) (v := ?_) rfl (by kernel_rfl) (by kernel_rfl) (by kernel_rfl) (fun _ _ _ h => h) (Or.inl ⟨by kernel_rfl, ?_⟩) (by assumption) ?_
      rotate_left
      · (intro w hSw; have z1 := R1.out w hSw; have z2 := R2.out w hSw; have z3 := R3.out w hSw; have z4 := R4.out w hSw; go_simp); (try with_reducible rfl)
      try simp only [Act.put, List.getElem_toArray, List.getElem_cons_succ, List.getElem_cons_zero, List.setIfInBounds_toArray, List.set_cons_zero, List.set_cons_succ]
      refine wpAnyH_take (i := 12) (v := ?_) rfl (by kernel_rfl) (by kernel_rfl) (by kernel_rfl) (fun _ _ _ h => h) (Or.inl ⟨by kernel_rfl, ?_⟩) (by assumption) ?_
      rotate_left
      · (intro w hSw; (try dsimp only at hSw); go_simp); (try with_reducible rfl)
      try simp only [Act.put, List.getElem_toArray, List.getElem_cons_succ, List.getElem_cons_zero, List.setIfInBounds_toArray, List.set_cons_zero, List.set_cons_succ]
      refine wpAnyH_take (i := 13) (v := ?_) rfl (by kernel_rfl) (by kernel_rfl) (by kernel_rfl) (fun _ _ _ h => h) (Or.inl ⟨by kernel_rfl, ?_⟩) (by assumption) ?_
      rotate_left
      · (intro w hSw; (try dsimp only at hSw); go_simp); (try with_reducible rfl)
      try simp only [Act.put, List.getElem_toArray, List.getElem_cons_succ, List.getElem_cons_zero, List.setIfInBounds_toArray, List.set_cons_zero, List.set_cons_succ]
      refine wpAnyH_take (i := 14) (v := ?_) rfl (by kernel_rfl) (by kernel_rfl) (by kernel_rfl) (fun _ _ _ h => h) (Or.inl ⟨by kernel_rfl, ?_⟩) (by assumption) ?_
      rotate_left
      · (intro w hSw; (try dsimp only at hSw); go_simp); (try with_reducible rfl)
      try simp only [Act.put, List.getElem_toArray, List.getElem_cons_succ, List.getElem_cons_zero, List.setIfInBounds_toArray, List.set_cons_zero, List.set_cons_succ]
      refine wpAnyH_take (i := 15) (v := ?_) rfl (by kernel_rfl) (by kernel_rfl) (by kernel_rfl) (fun _ _ _ h => h) (Or.inl ⟨by kernel_rfl, ?_⟩) (by assumption) ?_
      rotate_left
      · (intro w hSw; (try dsimp only at hSw); go_simp); (try with_reducible rfl)
      try simp only [Act.put, List.getElem_toArray, List.getElem_cons_succ, List.getElem_cons_zero, List.setIfInBounds_toArray, List.set_cons_zero, List.set_cons_succ]
      refine wpAnyH_take (i := 16) (v := ?_) rfl (by kernel_rfl) (by kernel_rfl) (by kernel_rfl) (fun _ _ _ h => h) (Or.inl ⟨by kernel_rfl, ?_⟩) (by assumption) ?_
      rotate_left
      · (intro w hSw; have z1 := R1.out w hSw; have z2 := R2.out w hSw; have z3 := R3.out w hSw; have z4 := R4.out w hSw; go_simp); (try with_reducible rfl)
      try simp only [Act.put, List.getElem_toArray, List.getElem_cons_succ, List.getElem_cons_zero, List.setIfInBounds_toArray, List.set_cons_zero, List.set_cons_succ]
      refine wpAnyH_ready (rs := [10]) (by kernel_rfl) (by simp) ?_
      refine AllReadyH.cons rfl (fun K hK => ?_) AllReadyH.nil
      have hSA := (hS.alloc (.cells #[.int .u64 (wd s 0), .int .u64 (wd s 1), .int .u64 (wd s 2), .int .u64 (wd s 3), .int .u64 (wd S 0), .int .u64 (wd S 1), .int .u64 (wd S 2), .int .u64 (wd S 3)] 39)).drew
      have hnew : ((wr.alloc (.cells #[.int .u64 (wd s 0), .int .u64 (wd s 1), .int .u64 (wd s 2), .int .u64 (wd s 3), .int .u64 (wd S 0), .int .u64 (wd S 1), .int .u64 (wd S 2), .int .u64 (wd S 3)] 39)).drew).heap[wr.heap.size]? = some (.cells #[.int .u64 (wd s 0), .int .u64 (wd s 1), .int .u64 (wd s 2), .int .u64 (wd s 3), .int .u64 (wd S 0), .int .u64 (wd S 1), .int .u64 (wd S 2), .int .u64 (wd S 3)] 39 (0, 0)) := heap_new wr _
      go_simp
      refine hK.out _ _ ?_ (fun hHeld => ?_)
      · exact hSA
      clear hK K
      try simp only [Act.put, List.getElem_toArray, List.getElem_cons_succ, List.getElem_cons_zero, List.setIfInBounds_toArray, List.set_cons_zero, List.set_cons_succ]
      refine wpAnyH_ready (rs := [11]) (by kernel_rfl) (by simp) ?_
      refine AllReadyH.cons rfl (fun K hK => ?_) ?_
      rotate_left
      · exact AllReadyH.nil
      go_simp
      refine (OR.out wr.heap.size _ _ hnew).mono ?_
      rintro e w12 ⟨rfl, hB⟩
      have hS12 := hSA.step (by first | exact hB | exact hB)
      clear hB hHeld
      refine hK.out _ _ ?_ (fun hHeld => ?_)
      · (try dsimp only); exact hS12
      clear hK K
      try simp only [Act.put, List.getElem_toArray, List.getElem_cons_succ, List.getElem_cons_zero, List.setIfInBounds_toArray, List.set_cons_zero, List.set_cons_succ]
      refine wpAnyH_take (i := 17) (v := ?_) rfl (by kernel_rfl) (by kernel_rfl) (by kernel_rfl) (fun _ _ _ h => h) (Or.inl ⟨by kernel_rfl, ?_⟩) (by assumption) ?_
      rotate_left
      · (intro w hSw; (try dsimp only at hSw); go_simp); (try with_reducible rfl)
      try simp only [Act.put, List.getElem_toArray, List.getElem_cons_succ, List.getElem_cons_zero, List.setIfInBounds_toArray, List.set_cons_zero, List.set_cons_succ]
      refine wpAnyH_done (by kernel_rfl) ?_ _
      refine NoPanic.normal ?_
      go_wp2
      go_roundw
      case rel => exact ⟨k + 1, by omega, by simp, hS12⟩
      case measure => (simp [RowKit.intOf]) <;> omega
    · obtain rfl : k = n := by omega
      have hlt1 : ((k : Int) < k) = False := by simp
      go_wp2
      go_ret
      exact ⟨rfl, hS.b⟩

theorem rxFoldsW (p : Option Addr) (n cap : Nat) (xs : List Nd) (w : World) (h : Nodes w p n xs) (hw : Fit4 w) :
    Calls Tryd.prog 5 #[.slice p n cap] w fun e w' => e = .returned (.bool true) ∧ Below w.heap.size w w' := by
  by_cases hn : 130 < n
  · exact folds_wide p n cap xs hn w h hw
  · by_cases hp : ∃ t, IsPat xs t
    · obtain ⟨t, ht⟩ := hp
      have h1 : 1 ≤ n := by have := ht.2.2.1; have := t.size_pos; have := h.len; omega
      obtain ⟨b, o, rfl⟩ := h.ptr h1
      exact folds_pat b o n cap xs h.len t ht h.fits w (h.at' h1 b o rfl) hw
    · exact folds_none p n cap xs (by omega) hp w h hw

end Go.Proofs.YtfkidgbjjlgjdaaDoor
