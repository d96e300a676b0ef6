/- Of no program: a folded pattern is a pattern. -/
import Derived.Test.YthcgboebmhabeaaGreatDoorZRxTe
import Derived.Test.YthcgboebmhabeaaGreatDoorZRxW
namespace Go.Proofs.YthcgboebmhabeaaGreatDoor
open Go.RowKit
set_option linter.unusedVariables false
set_option linter.unusedSimpArgs false

theorem oth_two : ∀ i, i < 256 → oth (oth i) = i := by decide +kernel
theorem foldF_2 (s : Nat → Bool) (i : Nat) (hi : i < 256) : foldF (foldF s) i = foldF s i := by
  unfold foldF
  rw [oth_two i hi]
  cases s i <;> cases s (oth i) <;> rfl

theorem foldNd_eq (x : Nd) : foldNd x = ⟨x.kind, wd (foldF x.set) 0, wd (foldF x.set) 1, wd (foldF x.set) 2, wd (foldF x.set) 3, x.a, x.b, x.mn, x.mx, x.n⟩ := rfl
theorem foldNd_kind (x : Nd) : (foldNd x).kind = x.kind := by rw [foldNd_eq]
theorem foldNd_a (x : Nd) : (foldNd x).a = x.a := by rw [foldNd_eq]
theorem foldNd_b (x : Nd) : (foldNd x).b = x.b := by rw [foldNd_eq]
theorem foldNd_mn (x : Nd) : (foldNd x).mn = x.mn := by rw [foldNd_eq]
theorem foldNd_mx (x : Nd) : (foldNd x).mx = x.mx := by rw [foldNd_eq]
theorem foldNd_n (x : Nd) : (foldNd x).n = x.n := by rw [foldNd_eq]
theorem set_eq (x : Nd) : x.set = ofWords x.w0 x.w1 x.w2 x.w3 := rfl
theorem foldNd_set (x : Nd) (i : Nat) (hi : i < 256) : (foldNd x).set i = foldF x.set i := by
  rw [foldNd_eq, set_eq]
  dsimp only
  generalize foldF x.set = F
  obtain ⟨a, b, c, d⟩ := ofWords_wd (wd_lt F 0) (wd_lt F 1) (wd_lt F 2) (wd_lt F 3)
  refine wd_inj (f := ofWords (wd F 0) (wd F 1) (wd F 2) (wd F 3)) (g := F) (fun k hk => ?_) i hi
  rcases (by omega : k = 0 ∨ k = 1 ∨ k = 2 ∨ k = 3) with rfl | rfl | rfl | rfl
  · exact a
  · exact b
  · exact c
  · exact d
theorem foldNd_2 (x : Nd) : foldNd (foldNd x) = foldNd x := by
  have h : ∀ k, k < 4 → wd (foldF (foldNd x).set) k = wd (foldF x.set) k := fun k hk => wd_congr hk fun i hi => by
    have e1 : foldF (foldNd x).set i = foldF (foldF x.set) i := by
      show ((foldNd x).set i || (foldNd x).set (oth i)) = (foldF x.set i || foldF x.set (oth i))
      rw [foldNd_set x i hi, foldNd_set x (oth i) (oth_lt hi)]
    rw [e1, foldF_2 _ _ hi]
  rw [foldNd_eq (foldNd x), h 0 (by omega), h 1 (by omega), h 2 (by omega), h 3 (by omega), foldNd_kind, foldNd_a, foldNd_b, foldNd_mn, foldNd_mx, foldNd_n, ← foldNd_eq]
theorem foldNd_fits {x : Nd} (h : x.Fits) : (foldNd x).Fits := by
  rw [foldNd_eq]
  generalize foldF x.set = F
  exact ⟨h.k, by dsimp only; exact wd_lt _ _, by dsimp only; exact wd_lt _ _, by dsimp only; exact wd_lt _ _, by dsimp only; exact wd_lt _ _, h.a, h.b, h.mn, h.mx, h.n⟩

theorem wd_none (f : Nat → Bool) (k : Nat) (hk : k < 4) (h : ∀ i, i < 256 → f i = false) : wd f k = 0 := by
  rw [wd_congr (g := fun _ => false) hk h]
  rcases (by omega : k = 0 ∨ k = 1 ∨ k = 2 ∨ k = 3) with rfl | rfl | rfl | rfl <;> decide +kernel
theorem foldNd_zero {x : Nd} (h : x.w0 = 0 ∧ x.w1 = 0 ∧ x.w2 = 0 ∧ x.w3 = 0) : foldNd x = x := by
  obtain ⟨h0, h1, h2, h3⟩ := h
  have hs : ∀ i, x.set i = false := fun i => by
    rw [set_eq, h0, h1, h2, h3]
    simp [ofWords]
  have hf : ∀ i, foldF x.set i = false := fun i => by
    show (x.set i || x.set (oth i)) = false
    rw [hs, hs]; rfl
  rw [foldNd_eq]
  generalize foldF x.set = F at *
  rw [wd_none F 0 (by omega) fun i _ => hf i, wd_none F 1 (by omega) fun i _ => hf i, wd_none F 2 (by omega) fun i _ => hf i, wd_none F 3 (by omega) fun i _ => hf i]
  clear hf hs
  obtain ⟨k, a, b, c, d, e, f, g, i, j⟩ := x
  simp only at h0 h1 h2 h3 ⊢
  rw [h0, h1, h2, h3]
theorem zero_of {x : Nd} (h : isNd x = true) (hk : x.kind ≠ 1) : x.w0 = 0 ∧ x.w1 = 0 ∧ x.w2 = 0 ∧ x.w3 = 0 := by
  unfold isNd at h
  rw [if_neg hk] at h
  have fin : ∀ {y : Nd}, x = y → (y.w0 = 0 ∧ y.w1 = 0 ∧ y.w2 = 0 ∧ y.w3 = 0) → x.w0 = 0 ∧ x.w1 = 0 ∧ x.w2 = 0 ∧ x.w3 = 0 := fun e hy => by rw [e]; exact hy
  by_cases k0 : x.kind = 0 ∨ x.kind = 2 ∨ x.kind = 3
  · rw [if_pos k0] at h; exact fin (of_decide_eq_true h) ⟨rfl, rfl, rfl, rfl⟩
  rw [if_neg k0] at h
  by_cases k4 : x.kind = 4 ∨ x.kind = 5
  · rw [if_pos k4] at h; exact fin (of_decide_eq_true h) ⟨rfl, rfl, rfl, rfl⟩
  rw [if_neg k4] at h
  by_cases k6 : x.kind = 6
  · rw [if_pos k6, Bool.and_eq_true] at h; exact fin (of_decide_eq_true h.2) ⟨rfl, rfl, rfl, rfl⟩
  rw [if_neg k6] at h
  by_cases k7 : x.kind = 7
  · rw [if_pos k7, Bool.and_eq_true] at h; exact fin (of_decide_eq_true h.2) ⟨rfl, rfl, rfl, rfl⟩
  rw [if_neg k7] at h
  by_cases k8 : x.kind = 8
  · rw [if_pos k8, Bool.and_eq_true] at h; exact fin (of_decide_eq_true h.2) ⟨rfl, rfl, rfl, rfl⟩
  rw [if_neg k8] at h
  cases h

theorem nonempty {x : Nd} (hx : x.Fits) (h : ¬ (x.w0 = 0 ∧ x.w1 = 0 ∧ x.w2 = 0 ∧ x.w3 = 0)) : ∃ i, i < 256 ∧ x.set i = true := by
  rcases Classical.em (∃ i, i < 256 ∧ x.set i = true) with q | q
  · exact q
  · have hz : ∀ i, i < 256 → x.set i = false := fun i hi => by
      cases e : x.set i with
      | false => rfl
      | true => exact absurd ⟨i, hi, e⟩ q
    obtain ⟨a, b, c, d⟩ := ofWords_wd hx.s0 hx.s1 hx.s2 hx.s3
    rw [set_eq] at hz
    generalize ofWords x.w0 x.w1 x.w2 x.w3 = F at *
    have e0 := wd_none F 0 (by omega) hz
    have e1 := wd_none F 1 (by omega) hz
    have e2 := wd_none F 2 (by omega) hz
    have e3 := wd_none F 3 (by omega) hz
    exact absurd ⟨a.symm.trans e0, b.symm.trans e1, c.symm.trans e2, d.symm.trans e3⟩ h
theorem foldNd_nd {x : Nd} (hx : x.Fits) (h : isNd x = true) : isNd (foldNd x) = true := by
  by_cases hk : x.kind = 1
  · have hk' : (foldNd x).kind = 1 := by rw [foldNd_eq]; exact hk
    have hz : ¬ ((foldNd x).w0 = 0 ∧ (foldNd x).w1 = 0 ∧ (foldNd x).w2 = 0 ∧ (foldNd x).w3 = 0) := by
      intro hz
      unfold isNd at h
      rw [if_neg (by omega), if_pos hk, Bool.and_eq_true] at h
      obtain ⟨i, hi, hs⟩ := nonempty hx (of_decide_eq_true h.1)
      have e1 := foldNd_set x i hi
      have e2 : (foldNd x).set i = false := by
        rw [set_eq, hz.1, hz.2.1, hz.2.2.1, hz.2.2.2]
        simp [ofWords]
      rw [e2] at e1
      have e3 : foldF x.set i = (x.set i || x.set (oth i)) := rfl
      rw [e3, hs] at e1
      cases e1
    have hf : (foldNd x).a = 0 ∧ (foldNd x).b = 0 ∧ (foldNd x).mn = 0 ∧ (foldNd x).mx = 0 ∧ (foldNd x).n = 0 := by
      unfold isNd at h
      rw [if_neg (by omega), if_pos hk, Bool.and_eq_true] at h
      have e := of_decide_eq_true h.2
      have q : x.a = 0 ∧ x.b = 0 ∧ x.mn = 0 ∧ x.mx = 0 ∧ x.n = 0 := by
        refine ⟨?_, ?_, ?_, ?_, ?_⟩ <;> rw [e]
      rw [foldNd_eq]
      exact q
    generalize foldNd x = y at *
    unfold isNd
    rw [if_neg (by omega), if_pos hk', Bool.and_eq_true]
    refine ⟨decide_eq_true hz, decide_eq_true ?_⟩
    obtain ⟨a, b, c, d, e⟩ := hf
    obtain ⟨k, y0, y1, y2, y3, ya, yb, ym, yM, yn⟩ := y
    simp only at hk' a b c d e ⊢
    rw [hk', a, b, c, d, e]
  · rw [foldNd_zero (zero_of h hk)]; exact h

namespace T
/-- The tree with its sets folded. -/
def fold : T → T
  | .leaf x => .leaf (foldNd x)
  | .two k a b => .two k a.fold b.fold
  | .times m M t => .times m M t.fold
  | .group n t => .group n t.fold
theorem fold_size : ∀ t : T, t.fold.size = t.size
  | .leaf x => by simp only [fold, size]
  | .two k a b => by simp [fold, size, fold_size a, fold_size b]
  | .times m M t => by simp [fold, size, fold_size t]
  | .group n t => by simp [fold, size, fold_size t]
theorem fold_groups : ∀ t : T, t.fold.groups = t.groups
  | .leaf x => by simp only [fold, groups]
  | .two k a b => by simp [fold, groups, fold_groups a, fold_groups b]
  | .times m M t => by simp only [fold, groups, fold_groups t]
  | .group n t => by simp [fold, groups, fold_groups t]
theorem fold_refs : ∀ t : T, t.fold.refs = t.refs
  | .leaf x => by simp only [fold, refs, foldNd_kind]
  | .two k a b => by simp [fold, refs, fold_refs a, fold_refs b]
  | .times m M t => by simp only [fold, refs, fold_refs t]
  | .group n t => by simp only [fold, refs, fold_refs t]
theorem fold_2 : ∀ t : T, t.fold.fold = t.fold
  | .leaf x => by simp [fold, foldNd_2]
  | .two k a b => by simp [fold, fold_2 a, fold_2 b]
  | .times m M t => by simp [fold, fold_2 t]
  | .group n t => by simp [fold, fold_2 t]
theorem fold_ok : ∀ t : T, t.Ok → TFits t → t.fold.Ok
  | .leaf x, h, f => ⟨foldNd_nd f h.1, by rw [foldNd_kind]; exact h.2⟩
  | .two k a b, h, f => ⟨h.1, fold_ok a h.2.1 f.1, fold_ok b h.2.2 f.2⟩
  | .times m M t, h, f => ⟨h.1, fold_ok t h.2 f⟩
  | .group n t, h, f => ⟨h.1, fold_ok t h.2 f⟩
theorem fold_num : ∀ (t : T) (s : Nat × (Nat → Bool)), num t.fold s = num t s
  | .leaf x, s => by simp only [fold, num, foldNd_kind, foldNd_n]
  | .two k a b, s => by
    simp only [fold, num, fold_num a]
    congr 1
    funext u
    exact fold_num b u
  | .times m M t, s => by simp only [fold, num, fold_num t]
  | .group n t, s => by simp only [fold, num, fold_num t]
theorem zero_two (k : Int) (a b : Int) : foldNd ⟨k, 0, 0, 0, 0, a, b, 0, 0, 0⟩ = ⟨k, 0, 0, 0, 0, a, b, 0, 0, 0⟩ := foldNd_zero ⟨rfl, rfl, rfl, rfl⟩
theorem fold_root : ∀ (t : T) (o : Nat), t.fold.root o = foldNd (t.root o)
  | .leaf x, o => by simp only [fold, root]
  | .two k a b, o => by
    simp only [fold, root, fold_size]
    exact (foldNd_zero ⟨rfl, rfl, rfl, rfl⟩).symm
  | .times m M t, o => by
    simp only [fold, root, fold_size]
    exact (foldNd_zero ⟨rfl, rfl, rfl, rfl⟩).symm
  | .group n t, o => by
    simp only [fold, root, fold_size]
    exact (foldNd_zero ⟨rfl, rfl, rfl, rfl⟩).symm
theorem fold_at {l : Nat → Option Nd} : ∀ (t : T) (o : Nat), At l t o → At (fun i => (l i).map foldNd) t.fold o
  | .leaf x, o, h => by
    have h' : l o = some x := h
    show (l o).map foldNd = some (foldNd x)
    rw [h', Option.map_some]
  | .two k a b, o, ⟨h1, h2, h3⟩ => by
    refine ⟨fold_at a o h1, ?_, ?_⟩
    · rw [fold_size]; exact fold_at b _ h2
    · rw [fold_size, fold_size]
      show (l _).map foldNd = some (root (fold (.two k a b)) o)
      rw [fold_root, h3]; rfl
  | .times m M t, o, ⟨h1, h3⟩ => by
    refine ⟨fold_at t o h1, ?_⟩
    rw [fold_size]
    have e := fold_root (.times m M t) o
    simp only [fold] at e
    rw [e]
    simp only [h3, Option.map_some]
  | .group n t, o, ⟨h1, h3⟩ => by
    refine ⟨fold_at t o h1, ?_⟩
    rw [fold_size]
    have e := fold_root (.group n t) o
    simp only [fold] at e
    rw [e]
    simp only [h3, Option.map_some]
end T

theorem kindAt_fold (xs : List Nd) (a : Int) : kindAt (xs.map foldNd) a = kindAt xs a := by
  unfold kindAt
  rw [List.getElem?_map]
  cases xs[a.toNat]? with
  | none => rfl
  | some y => exact foldNd_kind y
theorem pOk_fold {xs : List Nd} {x : Nd} (h : pOk xs x) : pOk (xs.map foldNd) (foldNd x) := by
  unfold pOk at h ⊢
  rw [foldNd_kind, foldNd_a, foldNd_b, kindAt_fold, kindAt_fold, List.length_map]
  exact h
theorem tfits_at {xs : List Nd} (hf : ∀ (i : Nat) (x : Nd), xs[i]? = some x → x.Fits) : ∀ (t : T) (o : Nat), T.At (fun i => xs[i]?) t o → TFits t
  | .leaf x, o, h => hf o x h
  | .two k a b, o, ⟨h1, h2, h3⟩ => ⟨tfits_at hf a o h1, tfits_at hf b _ h2⟩
  | .times m M t, o, ⟨h1, h3⟩ => tfits_at hf t o h1
  | .group n t, o, ⟨h1, h3⟩ => tfits_at hf t o h1
/-- **A folded pattern is one.** -/
theorem pat_fold {xs : List Nd} {t : T} (h : IsPat xs t) (hf : ∀ (i : Nat) (x : Nd), xs[i]? = some x → x.Fits) : IsPat (xs.map foldNd) t.fold := by
  obtain ⟨h1, h2, h3, h4, h5, h6, h7⟩ := h
  refine ⟨T.fold_ok t h1 (tfits_at hf t 0 h2), ?_, by rw [T.fold_size, h3, List.length_map], by rw [List.length_map]; exact h4, ?_, ?_, by rw [T.fold_num]; exact h7⟩
  · have := T.fold_at t 0 h2
    simpa only [List.getElem?_map] using this
  · intro i x hx
    rw [List.getElem?_map, Option.map_eq_some_iff] at hx
    obtain ⟨y, hy, rfl⟩ := hx
    exact foldNd_nd (hf i y hy) (h5 i y hy)
  · intro i x hx
    rw [List.getElem?_map, Option.map_eq_some_iff] at hx
    obtain ⟨y, hy, rfl⟩ := hx
    exact pOk_fold (h6 i y hy)
theorem fits_fold {xs : List Nd} (hf : ∀ (i : Nat) (x : Nd), xs[i]? = some x → x.Fits) : ∀ (i : Nat) (x : Nd), (xs.map foldNd)[i]? = some x → x.Fits := fun i x hx => by
  rw [List.getElem?_map, Option.map_eq_some_iff] at hx
  obtain ⟨y, hy, rfl⟩ := hx
  exact foldNd_fits (hf i y hy)
theorem fold_fold (xs : List Nd) : (xs.map foldNd).map foldNd = xs.map foldNd := by
  rw [List.map_map]
  apply List.map_congr_left
  intro x _
  exact foldNd_2 x
theorem FRow.at {w : World} {g n : Nat} {xs : List Nd} (h : FRow w g xs n) (hlen : xs.length = n) : NodesAt w g 0 (xs.map foldNd) := by
  obtain ⟨cur, h1, h2⟩ := h
  refine ⟨(Array.getElem?_eq_some_iff.1 h1).1, fun i x hx j v hv => ?_⟩
  rw [List.getElem?_map, Option.map_eq_some_iff] at hx
  obtain ⟨y, hy, rfl⟩ := hx
  have hi : i < n := by
    have := (List.getElem?_eq_some_iff.1 hy).1
    omega
  have hj : j < 10 := by
    have := (Array.getElem?_eq_some_iff.1 hv).1
    simpa [Nd.cells] using this
  rw [cell_of _ _ _ _ h1, Nat.zero_add, h2 i j y hy hj, if_pos hi]
  exact hv

end Go.Proofs.YthcgboebmhabeaaGreatDoor
