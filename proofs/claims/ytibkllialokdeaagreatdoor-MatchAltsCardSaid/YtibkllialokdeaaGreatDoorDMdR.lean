/- match: one pattern or the other one, as one pattern; of no program. -/
import Derived.Test.YtibkllialokdeaaGreatDoorDMdS
import Derived.Test.YtibkllialokdeaaGreatDoorRows
import Derived.Test.YtibkllialokdeaaGreatDoorTie
import Derived.Test.YtibkllialokdeaaGreatDoorCards
set_option linter.unusedVariables false
set_option linter.unusedSimpArgs false
set_option maxRecDepth 100000
set_option maxHeartbeats 40000000
namespace Go.Proofs.YtibkllialokdeaaGreatDoor
open Go.RowKit Go.Lib
def shN (k : Nat) (x : Nd) : Nd := { x with a := if x.kind = 4 ∨ x.kind = 5 ∨ x.kind = 6 then x.a + k else x.a, b := if x.kind = 4 ∨ x.kind = 5 then x.b + k else x.b }
theorem shN_kind (k : Nat) (x : Nd) : (shN k x).kind = x.kind := rfl
theorem shN_id {k : Nat} {x : Nd} (h : x.kind ≠ 4 ∧ x.kind ≠ 5 ∧ x.kind ≠ 6) : shN k x = x := by
 obtain ⟨kd, a, b, c, d, e, f, g, i, j⟩ := x
 simp only at h
 simp [shN, h]
def rootO (m n : Nat) : Nd := ⟨5, 0, 0, 0, 0, (m : Int) - 1, (m : Int) + n - 1, 0, 0, 0⟩
def joint (xs ys : List Nd) : List Nd := xs ++ (ys.map (shN xs.length) ++ [rootO xs.length ys.length])
theorem joint_l {xs ys : List Nd} {i : Nat} (h : i < xs.length) : (joint xs ys)[i]? = xs[i]? := by unfold joint; rw [List.getElem?_append_left h]
theorem joint_r {xs ys : List Nd} {i : Nat} (h : i < ys.length) : (joint xs ys)[xs.length + i]? = (ys[i]?).map (shN xs.length) := by
 unfold joint
 rw [List.getElem?_append_right (by omega), show xs.length + i - xs.length = i by omega, List.getElem?_append_left (by simpa using h), List.getElem?_map]
theorem joint_e {xs ys : List Nd} : (joint xs ys)[xs.length + ys.length]? = some (rootO xs.length ys.length) := by
 unfold joint
 rw [List.getElem?_append_right (by omega), show xs.length + ys.length - xs.length = ys.length by omega, List.getElem?_append_right (by simp)]
 simp
theorem joint_len {xs ys : List Nd} : (joint xs ys).length = xs.length + ys.length + 1 := by unfold joint; simp; omega
theorem joint_cases {xs ys : List Nd} {i : Nat} {x : Nd} (h : (joint xs ys)[i]? = some x) :
  (i < xs.length ∧ xs[i]? = some x) ∨ (∃ j y, i = xs.length + j ∧ ys[j]? = some y ∧ x = shN xs.length y) ∨ x = rootO xs.length ys.length := by
 have hi := (List.getElem?_eq_some_iff.1 h).1
 rw [joint_len] at hi
 by_cases h1 : i < xs.length
 ·rw [joint_l h1] at h; exact .inl ⟨h1, h⟩
 ·by_cases h2 : i - xs.length < ys.length
  ·have := joint_r (xs := xs) h2
   rw [show xs.length + (i - xs.length) = i by omega, h] at this
   cases e : ys[i - xs.length]? with
   | none => rw [e] at this; cases this
   | some y =>
    rw [e] at this
    simp only [Option.map_some, Option.some.injEq] at this
    exact .inr (.inl ⟨i - xs.length, y, by omega, e, this⟩)
  ·have : i = xs.length + ys.length := by omega
   subst this
   rw [joint_e] at h
   exact .inr (.inr (Option.some.inj h).symm)
theorem at_congr {l l' : Nat → Option Nd} : ∀ (t : T) (o : Nat), (∀ i, o ≤ i → i < o + t.size → l' i = l i) → T.At l t o → T.At l' t o
 | .leaf x, o, h, a => by show l' o = some x; rw [h o (Nat.le_refl _) (by simp [T.size])]; exact a
 | .two k p q, o, h, a => by
  have hs : (T.two k p q).size = p.size + q.size + 1 := rfl
  refine ⟨at_congr p o (fun i h1 h2 => h i h1 (by omega)) a.1, at_congr q (o + p.size) (fun i h1 h2 => h i (by omega) (by omega)) a.2.1, ?_⟩
  rw [h _ (by omega) (by omega)]; exact a.2.2
 | .times m M t, o, h, a => by
  have hs : (T.times m M t).size = t.size + 1 := rfl
  refine ⟨at_congr t o (fun i h1 h2 => h i h1 (by omega)) a.1, ?_⟩
  rw [h _ (by omega) (by omega)]; exact a.2
 | .group n t, o, h, a => by
  have hs : (T.group n t).size = t.size + 1 := rfl
  refine ⟨at_congr t o (fun i h1 h2 => h i h1 (by omega)) a.1, ?_⟩
  rw [h _ (by omega) (by omega)]; exact a.2
theorem at_shift {l l' : Nat → Option Nd} {k : Nat} : ∀ (t : T) (o : Nat), t.Ok → t.groups = 0 → (∀ i x, o ≤ i → i < o + t.size → l i = some x → l' (k + i) = some (shN k x)) → T.At l t o → T.At l' t (k + o)
 | .leaf x, o, ho, hg, h, a => by
  have hx : l o = some x := a
  show l' (k + o) = some x
  rw [h o x (Nat.le_refl _) (by simp [T.size]) hx, shN_id (by have := ho.2; omega)]
 | .two kk p q, o, ho, hg, h, a => by
  have hs : (T.two kk p q).size = p.size + q.size + 1 := rfl
  have hg' : p.groups + q.groups = 0 := hg
  refine ⟨at_shift p o ho.2.1 (by omega) (fun i x h1 h2 => h i x h1 (by omega)) a.1, ?_, ?_⟩
  ·rw [Nat.add_assoc]; exact at_shift q (o + p.size) ho.2.2 (by omega) (fun i x h1 h2 => h i x (by omega) (by omega)) a.2.1
  ·rw [show k + o + p.size + q.size = k + (o + p.size + q.size) by omega, h _ _ (by omega) (by omega) a.2.2]
   have hk := ho.1
   have e : (T.root (.two kk p q) o).kind = kk := rfl
   unfold shN
   rw [e, if_pos (by omega), if_pos hk]
   simp only [T.root, Option.some.injEq, Nd.mk.injEq, true_and, and_true]
   omega
 | .times m M t, o, ho, hg, h, a => by
  have hs : (T.times m M t).size = t.size + 1 := rfl
  refine ⟨at_shift t o ho.2 hg (fun i x h1 h2 => h i x h1 (by omega)) a.1, ?_⟩
  rw [show k + o + t.size = k + (o + t.size) by omega, h _ _ (by omega) (by omega) a.2]
  have e : (T.root (.times m M t) o).kind = 6 := rfl
  unfold shN
  rw [e, if_pos (by omega), if_neg (by omega)]
  simp only [T.root, Option.some.injEq, Nd.mk.injEq, true_and, and_true]
  omega
 | .group n t, o, ho, hg, h, a => by have : t.groups + 1 = 0 := hg; omega
theorem num_none : ∀ (t : T) (u : Nat × (Nat → Bool)), t.groups = 0 → num t (0, fun _ => false) = some u → u = (0, fun _ => false)
 | .leaf x, u, hg, h => by
  simp only [num] at h
  split at h
  ·simp at h
  ·exact (Option.some.inj h).symm
 | .two k p q, u, hg, h => by
  have hg' : p.groups + q.groups = 0 := hg
  simp only [num, Option.bind_eq_some_iff] at h
  obtain ⟨v, h1, h2⟩ := h
  have := num_none p v (by omega) h1
  subst this
  exact num_none q u (by omega) h2
 | .times m M t, u, hg, h => num_none t u hg h
 | .group n t, u, hg, h => by have : t.groups + 1 = 0 := hg; omega
theorem refs_none : ∀ (t : T) (u : Nat × (Nat → Bool)), t.groups = 0 → num t (0, fun _ => false) = some u → t.refs = 0
 | .leaf x, u, hg, h => by
  simp only [num] at h
  unfold T.refs
  split at h
  ·simp at h
  ·rw [if_neg (by assumption)]
 | .two k p q, u, hg, h => by
  have hg' : p.groups + q.groups = 0 := hg
  simp only [num, Option.bind_eq_some_iff] at h
  obtain ⟨v, h1, h2⟩ := h
  have := num_none p v (by omega) h1
  subst this
  have a := refs_none p _ (by omega) h1
  have b := refs_none q u (by omega) h2
  simp only [T.refs, a, b]
 | .times m M t, u, hg, h => refs_none t u hg h
 | .group n t, u, hg, h => by have : t.groups + 1 = 0 := hg; omega
theorem kind_l {xs ys : List Nd} {p : Int} (h0 : 0 ≤ p) (h : p < xs.length) : kindAt (joint xs ys) p = kindAt xs p := by
 unfold kindAt
 rw [joint_l (by omega)]
theorem kind_r {xs ys : List Nd} {p : Int} (h0 : 0 ≤ p) (h : p < ys.length) : kindAt (joint xs ys) (p + xs.length) = kindAt ys p := by
 unfold kindAt
 rw [show (p + (xs.length : Int)).toNat = xs.length + p.toNat by omega, joint_r (by omega)]
 cases ys[p.toNat]? <;> rfl
theorem part_in {l : Nat → Option Nd} : ∀ (t : T) (o : Nat), t.Ok → T.At l t o → ∀ i x, o ≤ i → i < o + t.size → l i = some x →
  ((x.kind = 4 ∨ x.kind = 5) → 0 ≤ x.a ∧ x.a < (o + t.size : Nat) ∧ 0 ≤ x.b ∧ x.b < (o + t.size : Nat)) ∧ (x.kind = 6 → 0 ≤ x.a ∧ x.a < (o + t.size : Nat))
 | .leaf y, o, ho, a, i, x, h1, h2, hx => by
  have hs : (T.leaf y).size = 1 := rfl
  have e : i = o := by omega
  subst e
  have hy : l i = some y := a
  rw [hy] at hx
  cases hx
  have := ho.2
  exact ⟨fun h => by omega, fun h => by omega⟩
 | .two k p q, o, ho, a, i, x, h1, h2, hx => by
  have hs : (T.two k p q).size = p.size + q.size + 1 := rfl
  have hp := p.size_pos
  have hq := q.size_pos
  by_cases c1 : i < o + p.size
  ·have := part_in p o ho.2.1 a.1 i x h1 c1 hx
   exact ⟨fun h => by have := this.1 h; omega, fun h => by have := this.2 h; omega⟩
  ·by_cases c2 : i < o + p.size + q.size
   ·have := part_in q (o + p.size) ho.2.2 a.2.1 i x (by omega) c2 hx
    exact ⟨fun h => by have := this.1 h; omega, fun h => by have := this.2 h; omega⟩
   ·have e : i = o + p.size + q.size := by omega
    subst e
    rw [a.2.2] at hx
    cases hx
    have hk := ho.1
    refine ⟨fun h => ?_, fun h => ?_⟩
    ·simp only [T.root]; omega
    ·have : k = 6 := h; omega
 | .times m M t, o, ho, a, i, x, h1, h2, hx => by
  have hs : (T.times m M t).size = t.size + 1 := rfl
  have hp := t.size_pos
  by_cases c1 : i < o + t.size
  ·have := part_in t o ho.2 a.1 i x h1 c1 hx
   exact ⟨fun h => by have := this.1 h; omega, fun h => by have := this.2 h; omega⟩
  ·have e : i = o + t.size := by omega
   subst e
   rw [a.2] at hx
   cases hx
   refine ⟨fun h => ?_, fun h => ?_⟩
   ·have : (6 : Int) = 4 ∨ (6 : Int) = 5 := h; omega
   ·simp only [T.root]; omega
 | .group n t, o, ho, a, i, x, h1, h2, hx => by
  have hs : (T.group n t).size = t.size + 1 := rfl
  have hp := t.size_pos
  by_cases c1 : i < o + t.size
  ·have := part_in t o ho.2 a.1 i x h1 c1 hx
   exact ⟨fun h => by have := this.1 h; omega, fun h => by have := this.2 h; omega⟩
  ·have e : i = o + t.size := by omega
   subst e
   rw [a.2] at hx
   cases hx
   refine ⟨fun h => ?_, fun h => ?_⟩
   ·have : (7 : Int) = 4 ∨ (7 : Int) = 5 := h; omega
   ·have : (7 : Int) = 6 := h; omega
theorem isNd_sh {x : Nd} (k : Nat) (h : isNd x = true) : isNd (shN k x) = true := by
 by_cases h4 : x.kind = 4 ∨ x.kind = 5
 ·have hk : (shN k x).kind = x.kind := rfl
  unfold isNd at h ⊢
  rw [hk]
  rw [if_neg (by omega), if_neg (by omega), if_pos h4] at h ⊢
  have e := of_decide_eq_true h
  apply decide_eq_true
  generalize hz : shN k x = z
  rw [e] at hz
  subst hz
  simp [shN, h4]
 ·by_cases h6 : x.kind = 6
  ·have hk : (shN k x).kind = x.kind := rfl
   unfold isNd at h ⊢
   rw [hk]
   rw [if_neg (by omega), if_neg (by omega), if_neg (by omega), if_pos h6] at h ⊢
   rw [Bool.and_eq_true] at h ⊢
   refine ⟨h.1, ?_⟩
   have e := of_decide_eq_true h.2
   apply decide_eq_true
   generalize hz : shN k x = z
   rw [e] at hz
   subst hz
   simp [shN]
  ·rw [shN_id (by omega)]; exact h
theorem joint_pat {xs ys : List Nd} {ta tb : T} (ha : IsPat xs ta) (hb : IsPat ys tb) (ga : ta.groups = 0) (gb : tb.groups = 0) (hl : xs.length + ys.length ≤ 100)
  (h5 : kindAt xs ((xs.length : Int) - 1) ≠ 5) (a0 : kindAt xs 0 ≠ 0) (b0 : kindAt ys 0 ≠ 0) : IsPat (joint xs ys) (.two 5 ta tb) := by
 obtain ⟨ha1, ha2, ha3, ha4, ha5, ha6, ha7⟩ := ha
 obtain ⟨hb1, hb2, hb3, hb4, hb5, hb6, hb7⟩ := hb
 have pa := ta.size_pos
 have pb := tb.size_pos
 refine ⟨⟨.inr rfl, ha1, hb1⟩, ⟨?_, ?_, ?_⟩, ?_, ?_, ?_, ?_, ?_⟩
 ·exact at_congr ta 0 (fun i h1 h2 => joint_l (by omega)) ha2
 ·have := at_shift (l := fun i => ys[i]?) (l' := fun i => (joint xs ys)[i]?) (k := xs.length) tb 0 hb1 gb (fun i x h1 h2 hx => by
   show (joint xs ys)[xs.length + i]? = _
   have hx' : ys[i]? = some x := hx
   rw [joint_r (by omega), hx']; rfl) hb2
  rw [show 0 + ta.size = xs.length + 0 by omega]
  exact this
 ·show (joint xs ys)[0 + ta.size + tb.size]? = _
  rw [show 0 + ta.size + tb.size = xs.length + ys.length by omega, joint_e]
  simp only [rootO, T.root, Option.some.injEq, Nd.mk.injEq, true_and, and_true]
  omega
 ·rw [joint_len]; show ta.size + tb.size + 1 = _; omega
 ·rw [joint_len]; omega
 ·intro i x hx
  rcases joint_cases hx with ⟨h1, h2⟩ | ⟨j, y, rfl, hy, rfl⟩ | rfl
  ·exact ha5 i x h2
  ·exact isNd_sh _ (hb5 j y hy)
  ·unfold isNd; rw [if_neg (by show ¬ ((5 : Int) = 0 ∨ (5 : Int) = 2 ∨ (5 : Int) = 3); omega), if_neg (by show ¬ (5 : Int) = 1; omega), if_pos (.inr rfl)]; exact decide_eq_true rfl
 ·have none0 : ∀ (zs : List Nd), (∀ (i : Nat) (x : Nd), zs[i]? = some x → pOk zs x) → kindAt zs 0 ≠ 0 → ∀ (i : Nat) (x : Nd), zs[i]? = some x → x.kind ≠ 0 := fun zs hz h0 i x hx e => by
   have hp := hz i x hx
   unfold pOk at hp
   rw [if_pos e] at hp
   have hi := (List.getElem?_eq_some_iff.1 hx).1
   have : i = 0 := by omega
   subst this
   apply h0
   unfold kindAt
   rw [show (0 : Int).toNat = 0 from rfl, hx]
   exact e
  intro i x hx
  rcases joint_cases hx with ⟨h1, h2⟩ | ⟨j, y, rfl, hy, rfl⟩ | rfl
  ·have hp := ha6 i x h2
   have hk0 := none0 xs ha6 a0 i x h2
   have hin := part_in ta 0 ha1 ha2 i x (Nat.zero_le _) (by omega) h2
   unfold pOk at hp ⊢
   rw [if_neg hk0] at hp ⊢
   by_cases k4 : x.kind = 4
   ·have q := hin.1 (.inl k4)
    rw [if_pos k4] at hp ⊢
    rw [kind_l q.1 (by omega), kind_l q.2.2.1 (by omega)]; exact hp
   rw [if_neg k4] at hp ⊢
   by_cases k5 : x.kind = 5
   ·have q := hin.1 (.inr k5)
    rw [if_pos k5] at hp ⊢
    rw [kind_l q.1 (by omega)]; exact hp
   rw [if_neg k5] at hp ⊢
   by_cases k6 : x.kind = 6
   ·have q := hin.2 k6
    rw [if_pos k6] at hp ⊢
    rw [kind_l q.1 (by omega)]; exact hp
   rw [if_neg k6]; trivial
  ·have hp := hb6 j y hy
   have hk0 := none0 ys hb6 b0 j y hy
   have hj := (List.getElem?_eq_some_iff.1 hy).1
   have hin := part_in tb 0 hb1 hb2 j y (Nat.zero_le _) (by omega) hy
   unfold pOk at hp ⊢
   rw [shN_kind]
   rw [if_neg hk0] at hp ⊢
   by_cases k4 : y.kind = 4
   ·have q := hin.1 (.inl k4)
    have ea : (shN xs.length y).a = y.a + xs.length := by unfold shN; simp [k4]
    have eb : (shN xs.length y).b = y.b + xs.length := by unfold shN; simp [k4]
    rw [if_pos k4] at hp ⊢
    rw [ea, eb, kind_r q.1 (by omega), kind_r q.2.2.1 (by omega)]; exact hp
   rw [if_neg k4] at hp ⊢
   by_cases k5 : y.kind = 5
   ·have q := hin.1 (.inr k5)
    have ea : (shN xs.length y).a = y.a + xs.length := by unfold shN; simp [k5]
    rw [if_pos k5] at hp ⊢
    rw [ea, kind_r q.1 (by omega)]; exact hp
   rw [if_neg k5] at hp ⊢
   by_cases k6 : y.kind = 6
   ·have q := hin.2 k6
    have ea : (shN xs.length y).a = y.a + xs.length := by unfold shN; simp [k6]
    rw [if_pos k6] at hp ⊢
    rw [ea, kind_r q.1 (by omega)]; exact hp
   rw [if_neg k6]; trivial
  ·unfold pOk
   have e : (rootO xs.length ys.length).kind = 5 := rfl
   rw [e, if_neg (by omega), if_neg (by omega), if_pos rfl]
   show kindAt (joint xs ys) ((xs.length : Int) - 1) ≠ 5
   rw [kind_l (by omega) (by omega)]; exact h5
 ·obtain ⟨u, hu⟩ := Option.isSome_iff_exists.1 ha7
  have := num_none ta u ga hu
  subst this
  simp only [num, hu, Option.bind_some]
  exact hb7
theorem joint_refs {xs : List Nd} {t : T} (h : IsPat xs t) (g : t.groups = 0) : t.refs = 0 := by
 obtain ⟨u, hu⟩ := Option.isSome_iff_exists.1 h.2.2.2.2.2.2
 exact refs_none t u g hu
theorem pat_groups {xs : List Nd} {t : T} (h : IsPat xs t) : gcnt xs xs.length = t.groups := by
 have h3 := (tree_nodes t 0 h.1 h.2.1).1
 rw [Nat.zero_add, h.2.2.1] at h3
 rw [h3]
 have : gcnt xs 0 = 0 := rfl
 omega
theorem joint_wh (s : List UInt8) (ta tb : T) (i j : Nat) : whR s (.two 5 ta tb) i j = (whR s ta i j || whR s tb i j) := by
 unfold whR
 have e : (semT s (.two 5 ta tb)).ends i 0 noC j = ((semT s ta).ends i 0 noC j || (semT s tb).ends i 0 noC j) := by
  rw [show semT s (.two 5 ta tb) = altS (semT s ta) (semT s tb) by rw [semT, if_neg (by decide)]]
  rfl
 rw [e]
 cases decide (i ≤ j) <;> simp
end Go.Proofs.YtibkllialokdeaaGreatDoor
