/- Of no program: what is read is a pattern, and is printed as a text that says it again. -/
import Derived.Test.YthbldjiibgnfmaaGreatDoorZBtF
import Derived.Test.YthbldjiibgnfmaaGreatDoorZBrKj
import Derived.Test.YthbldjiibgnfmaaGreatDoorZRxL
namespace Go.Proofs.YthbldjiibgnfmaaGreatDoor
open Go.RowKit Go.Lib
set_option linter.unusedVariables false
set_option linter.unusedSimpArgs false

/-- The nodes of a tree stand where they stand. -/
theorem nodes_at : ∀ (t : T) (pre post : List Nd), T.At (fun i => (pre ++ t.nodes pre.length ++ post)[i]?) t pre.length
  | .leaf x, pre, post => by
    show (pre ++ [x] ++ post)[pre.length]? = some x
    simp
  | .two k a b, pre, post => by
    have hl : (pre ++ a.nodes pre.length).length = pre.length + a.size := by rw [List.length_append, T.nodes_len]
    have A := nodes_at a pre (b.nodes (pre.length + a.size) ++ [T.root (.two k a b) pre.length] ++ post)
    have B := nodes_at b (pre ++ a.nodes pre.length) ([T.root (.two k a b) pre.length] ++ post)
    rw [hl] at B
    have e1 : pre ++ a.nodes pre.length ++ (b.nodes (pre.length + a.size) ++ [T.root (.two k a b) pre.length] ++ post) = pre ++ (T.two k a b).nodes pre.length ++ post := by simp [T.nodes]
    have e2 : pre ++ a.nodes pre.length ++ b.nodes (pre.length + a.size) ++ ([T.root (.two k a b) pre.length] ++ post) = pre ++ (T.two k a b).nodes pre.length ++ post := by simp [T.nodes]
    rw [e1] at A
    rw [e2] at B
    refine ⟨A, B, ?_⟩
    have hl2 : (pre ++ a.nodes pre.length ++ b.nodes (pre.length + a.size)).length = pre.length + a.size + b.size := by rw [List.length_append, hl, T.nodes_len]
    show (pre ++ (T.two k a b).nodes pre.length ++ post)[pre.length + a.size + b.size]? = _
    rw [← e2, List.getElem?_append_right (by omega), hl2]
    simp
  | .times m M t, pre, post => by
    have A := nodes_at t pre ([T.root (.times m M t) pre.length] ++ post)
    have e1 : pre ++ t.nodes pre.length ++ ([T.root (.times m M t) pre.length] ++ post) = pre ++ (T.times m M t).nodes pre.length ++ post := by simp [T.nodes]
    have hl : (pre ++ t.nodes pre.length).length = pre.length + t.size := by rw [List.length_append, T.nodes_len]
    rw [e1] at A
    refine ⟨A, ?_⟩
    show (pre ++ (T.times m M t).nodes pre.length ++ post)[pre.length + t.size]? = _
    rw [← e1, List.getElem?_append_right (by omega), hl]
    simp
  | .group n t, pre, post => by
    have A := nodes_at t pre ([T.root (.group n t) pre.length] ++ post)
    have e1 : pre ++ t.nodes pre.length ++ ([T.root (.group n t) pre.length] ++ post) = pre ++ (T.group n t).nodes pre.length ++ post := by simp [T.nodes]
    have hl : (pre ++ t.nodes pre.length).length = pre.length + t.size := by rw [List.length_append, T.nodes_len]
    rw [e1] at A
    refine ⟨A, ?_⟩
    show (pre ++ (T.group n t).nodes pre.length ++ post)[pre.length + t.size]? = _
    rw [← e1, List.getElem?_append_right (by omega), hl]
    simp
theorem ndOk_two (k a b : Int) (h : k = 4 ∨ k = 5) : isNd ⟨k, 0, 0, 0, 0, a, b, 0, 0, 0⟩ = true := by
  unfold isNd
  rcases h with rfl | rfl <;> simp
theorem ndOk_times (a m M : Int) (h : isCnt m M = true) : isNd ⟨6, 0, 0, 0, 0, a, 0, m, M, 0⟩ = true := by
  unfold isNd
  simp [h]
theorem ndOk_group (a n : Int) (h : isNum n = true) : isNd ⟨7, 0, 0, 0, 0, a, 0, 0, 0, n⟩ = true := by
  unfold isNd
  simp [h]
theorem nodes_isNd : ∀ (t : T), t.Ok → ∀ (o : Nat), ∀ x ∈ t.nodes o, isNd x = true
  | .leaf y, h, o, x, hx => by
    rw [List.mem_singleton.1 hx]; exact h.1
  | .two k a b, h, o, x, hx => by
    simp only [T.nodes, List.mem_append, List.mem_singleton] at hx
    rcases hx with q | q | rfl
    · exact nodes_isNd a h.2.1 _ x q
    · exact nodes_isNd b h.2.2 _ x q
    · exact ndOk_two _ _ _ h.1
  | .times m M t, h, o, x, hx => by
    simp only [T.nodes, List.mem_append, List.mem_singleton] at hx
    rcases hx with q | rfl
    · exact nodes_isNd t h.2 _ x q
    · exact ndOk_times _ _ _ h.1
  | .group n t, h, o, x, hx => by
    simp only [T.nodes, List.mem_append, List.mem_singleton] at hx
    rcases hx with q | rfl
    · exact nodes_isNd t h.2 _ x q
    · exact ndOk_group _ _ h.1
theorem kindAt_root {xs : List Nd} {t : T} {o : Nat} (h : T.At (fun i => xs[i]?) t o) (z : Int) (hz : z = (o : Int) + t.size - 1) : kindAt xs z = (t.root o).kind := by
  have := t.size_pos
  have hr := h.root
  obtain ⟨k, hk⟩ : ∃ k, o + t.size = k + 1 := ⟨o + t.size - 1, by omega⟩
  have e : o + t.size - 1 = k := by omega
  rw [e] at hr
  have ez : z = (k : Int) := by omega
  subst ez
  unfold kindAt
  simp only [Int.toNat_natCast]
  rw [hr]
theorem nodes_pOk {xs : List Nd} : ∀ (t : T) (fi la : Bool) (o : Nat), Canon fi la t → T.At (fun i => xs[i]?) t o → ∀ x ∈ t.nodes o, pOk xs x
  | .leaf y, fi, la, o, h, ha, x, hx => by
    rw [List.mem_singleton.1 hx]
    unfold pOk
    rcases h.2.2 with k | k | k | k
    · rw [if_neg (by omega), if_neg (by omega), if_neg (by omega), if_neg (by omega)]; trivial
    · rw [if_neg (by omega), if_neg (by omega), if_neg (by omega), if_neg (by omega)]; trivial
    · rw [if_neg (by omega), if_neg (by omega), if_neg (by omega), if_neg (by omega)]; trivial
    · rw [if_neg (by omega), if_neg (by omega), if_neg (by omega), if_neg (by omega)]; trivial
  | .two k a b, fi, la, o, h, ha, x, hx => by
    obtain ⟨_, rfl, hca, hcb⟩ := h
    simp only [T.nodes, List.mem_append, List.mem_singleton] at hx
    rcases hx with q | q | rfl
    · exact nodes_pOk a _ _ _ hca ha.1 x q
    · exact nodes_pOk b _ _ _ hcb ha.2.1 x q
    · have ka := kindAt_root ha.1 ((o : Int) + a.size - 1) rfl
      have kb := kindAt_root ha.2.1 ((o : Int) + a.size + b.size - 1) (by omega)
      have na : (a.root o).kind ≠ 4 ∧ (a.root o).kind ≠ 5 := by
        cases a with
        | leaf y => rcases hca.2.2 with k | k | k | k <;> (simp only [T.root]; omega)
        | two _ _ _ => exact absurd hca.1 (by decide)
        | times _ _ _ => exact ⟨(by decide : (6 : Int) ≠ 4), (by decide : (6 : Int) ≠ 5)⟩
        | group _ _ => exact ⟨(by decide : (7 : Int) ≠ 4), (by decide : (7 : Int) ≠ 5)⟩
      have nb : (b.root (o + a.size)).kind ≠ 5 := by
        cases b with
        | leaf y => rcases hcb.2.2 with k | k | k | k <;> (simp only [T.root]; omega)
        | two k' _ _ =>
          have := hcb.2.1
          subst this
          exact (by decide : (4 : Int) ≠ 5)
        | times _ _ _ => exact (by decide : (6 : Int) ≠ 5)
        | group _ _ => exact (by decide : (7 : Int) ≠ 5)
      unfold pOk
      rw [if_neg (by simp [T.root]), if_pos (by rfl)]
      refine ⟨?_, ?_, ?_⟩
      · show kindAt xs ((o : Int) + a.size - 1) ≠ 4
        rw [ka]; exact na.1
      · show kindAt xs ((o : Int) + a.size - 1) ≠ 5
        rw [ka]; exact na.2
      · show kindAt xs ((o : Int) + a.size + b.size - 1) ≠ 5
        rw [kb]; exact nb
  | .times m M t, fi, la, o, h, ha, x, hx => by
    obtain ⟨_, hnt, hct⟩ := h
    simp only [T.nodes, List.mem_append, List.mem_singleton] at hx
    rcases hx with q | rfl
    · exact nodes_pOk t _ _ _ hct ha.1 x q
    · have kt := kindAt_root ha.1 ((o : Int) + t.size - 1) rfl
      unfold pOk
      rw [if_neg (by simp [T.root]), if_neg (by simp [T.root]), if_neg (by simp [T.root]), if_pos (by rfl)]
      show kindAt xs ((o : Int) + t.size - 1) = 1 ∨ kindAt xs ((o : Int) + t.size - 1) = 7 ∨ kindAt xs ((o : Int) + t.size - 1) = 8
      rw [kt]
      cases t with
      | leaf y =>
        rcases hct.2.2 with k | k | k | k
        · exact .inl k
        · exact .inr (.inr k)
        · exact absurd k.2 (by decide)
        · exact absurd k.2 (by decide)
      | two _ _ _ => exact absurd hct.1 (by decide)
      | times _ _ _ => cases hnt
      | group _ _ => exact .inr (.inl rfl)
  | .group n t, fi, la, o, h, ha, x, hx => by
    simp only [T.nodes, List.mem_append, List.mem_singleton] at hx
    rcases hx with q | rfl
    · exact nodes_pOk t _ _ _ h.2 ha.1 x q
    · unfold pOk
      rw [if_neg (by simp [T.root]), if_neg (by simp [T.root]), if_neg (by simp [T.root]), if_neg (by simp [T.root])]
      trivial
theorem canon_pat {t : T} (h : Canon true true t) (hs : t.size ≤ 120) (hn : (num t (0, fun _ => false)).isSome = true) : IsPat (t.nodes 0) t := by
  have ho := canon_ok t _ _ h
  have ha : T.At (fun i => (t.nodes 0)[i]?) t 0 := by
    have := nodes_at t [] []
    simpa using this
  have hl := T.nodes_len t 0
  exact ⟨ho, ha, hl.symm, by omega, fun i x hx => nodes_isNd t ho 0 x (List.mem_of_getElem? hx), fun i x hx => nodes_pOk t _ _ 0 h ha x (List.mem_of_getElem? hx), hn⟩
theorem empty_pat : IsPat [kindNd 0] (.leaf (kindNd 0)) := by
  refine ⟨⟨by decide, .inl rfl⟩, rfl, rfl, by decide, ?_, ?_, rfl⟩
  · intro i x hx
    have : x = kindNd 0 := by simpa using List.mem_of_getElem? hx
    subst this
    decide
  · intro i x hx
    have : x = kindNd 0 := by simpa using List.mem_of_getElem? hx
    subst this
    rfl
/-- **What is read is a pattern, whose text says it again.** -/
theorem whole_pat (s : List UInt8) (q : BRd) (e : wholeP s = .ok q) : ∃ t, IsPat q.l t ∧ parsedL (textT t) = q.l ∧ t.size ≤ 120 ∧ t.Ok := by
  rcases whole_canon s q e with ⟨_, hl⟩ | ⟨_, t, hc, hl, hs, hn⟩
  · refine ⟨.leaf (kindNd 0), by rw [hl]; exact empty_pat, ?_, by decide, ⟨by decide, .inl rfl⟩⟩
    rw [hl]; rfl
  · refine ⟨t, by rw [hl]; exact canon_pat hc hs hn, ?_, hs, canon_ok t _ _ hc⟩
    obtain ⟨q', h1, h2⟩ := whole_text t hc hs hn
    unfold parsedL
    rw [h1, hl]
    exact h2

end Go.Proofs.YthbldjiibgnfmaaGreatDoor

namespace Go.Proofs.YthbldjiibgnfmaaGreatDoor
open Go.RowKit Go.Lib
set_option linter.unusedVariables false
set_option linter.unusedSimpArgs false

def isLet (c : UInt8) : Bool := (decide (97 ≤ c.toNat) && decide (c.toNat ≤ 122)) || (decide (48 ≤ c.toNat) && decide (c.toNat ≤ 57))
def letNd (c : UInt8) : Nd := byNd (rg c.toNat c.toNat)
/-- Letters one behind the other. -/
def chainT : List UInt8 → T
  | [] => .leaf (kindNd 0)
  | [c] => .leaf (letNd c)
  | c :: d :: l => .two 4 (.leaf (letNd c)) (chainT (d :: l))
theorem chain_size : ∀ (c : UInt8) (l : List UInt8), (chainT (c :: l)).size = 2 * l.length + 1
  | c, [] => rfl
  | c, d :: l => by
    have := chain_size d l
    show 1 + (chainT (d :: l)).size + 1 = _
    rw [this]; simp only [List.length_cons]; omega
theorem letNd_kind (c : UInt8) : (letNd c).kind = 1 := rfl
theorem letNd_nd (c : UInt8) : isNd (letNd c) = true := isNd_byNd (none_one c)
theorem chain_canon : ∀ (c : UInt8) (l : List UInt8) (fi : Bool), Canon fi true (chainT (c :: l))
  | c, [], fi => ⟨letNd_nd c, byNd_fits _, .inl rfl⟩
  | c, d :: l, fi => ⟨rfl, rfl, ⟨letNd_nd c, byNd_fits _, .inl rfl⟩, chain_canon d l false⟩
theorem chain_num : ∀ (c : UInt8) (l : List UInt8) (s : Nat × (Nat → Bool)), num (chainT (c :: l)) s = some s
  | c, [], s => by
    show (if (letNd c).kind = 8 then _ else some s) = some s
    rw [if_neg (by rw [letNd_kind]; decide)]
  | c, d :: l, s => by
    show (num (.leaf (letNd c)) s).bind (num (chainT (d :: l))) = some s
    have : num (.leaf (letNd c)) s = some s := by
      show (if (letNd c).kind = 8 then _ else some s) = some s
      rw [if_neg (by rw [letNd_kind]; decide)]
    rw [this]
    exact chain_num d l s
theorem let_show : ∀ n, n < 256 → ((97 ≤ n ∧ n ≤ 122) ∨ (48 ≤ n ∧ n ≤ 57)) → textT (.leaf (byNd (rg n n))) = [UInt8.ofNat n] := by decide +kernel
theorem let_text {c : UInt8} (h : isLet c = true) : textT (.leaf (letNd c)) = [c] := by
  have hc := c.toNat_lt
  have := let_show c.toNat (by omega) (by
    unfold isLet at h
    simp only [Bool.or_eq_true, Bool.and_eq_true, decide_eq_true_iff] at h
    exact h)
  simpa [letNd] using this
theorem chain_text : ∀ (c : UInt8) (l : List UInt8), (∀ d ∈ c :: l, isLet d = true) → textT (chainT (c :: l)) = c :: l
  | c, [], h => let_text (h c (by simp))
  | c, d :: l, h => by
    show textT (.leaf (letNd c)) ++ textT (chainT (d :: l)) = _
    rw [let_text (h c (by simp)), chain_text d l (fun x hx => h x (by simp [hx]))]
    rfl
/-- The nodes of a text of letters. -/
theorem letters_read (c : UInt8) (l : List UInt8) (h : ∀ d ∈ c :: l, isLet d = true) (hl : l.length ≤ 40) : parsedL (c :: l) = (chainT (c :: l)).nodes 0 ∧ IsPat ((chainT (c :: l)).nodes 0) (chainT (c :: l)) := by
  have hs := chain_size c l
  have hn : (num (chainT (c :: l)) (0, fun _ => false)).isSome = true := by rw [chain_num]; rfl
  obtain ⟨q, h1, h2⟩ := whole_text _ (chain_canon c l true) (by omega) hn
  rw [chain_text c l h] at h1
  refine ⟨?_, canon_pat (chain_canon c l true) (by omega) hn⟩
  unfold parsedL
  rw [h1]
  exact h2
/-- What is told of the letters, one by one. -/
def oneL (c : UInt8) : List UInt8 := text (.leaf (letNd c))
theorem chain_cons (c d : UInt8) (l : List UInt8) : text (chainT (c :: d :: l)) = 38 :: (oneL c ++ text (chainT (d :: l))) := rfl
theorem chain_one (c : UInt8) : text (chainT [c]) = oneL c := rfl
theorem oneL_head (c : UInt8) : ∃ X, oneL c = 91 :: X ∧ X.length ≤ 600 := by
  refine ⟨(oneL c).drop 1, ?_, ?_⟩
  · unfold oneL text leafText
    rw [if_neg (by rw [letNd_kind]; decide), if_pos (letNd_kind c)]
    rfl
  · have := text_len (.leaf (letNd c)) ⟨letNd_nd c, .inr (.inl rfl)⟩
    have e : (T.leaf (letNd c)).size = 1 := rfl
    rw [List.length_drop]
    unfold oneL
    omega
/-- What is told behind i letters. -/
theorem want_step (l : List UInt8) (i : Nat) (c : UInt8) (hc : l[i]? = some c) (w : List UInt8) (h : w ++ text (chainT (l.drop i)) = text (chainT l)) :
    (i + 1 < l.length → (w ++ (38 :: oneL c)) ++ text (chainT (l.drop (i + 1))) = text (chainT l)) ∧ (i + 1 = l.length → w ++ oneL c = text (chainT l)) := by
  obtain ⟨hi, rfl⟩ := List.getElem?_eq_some_iff.1 hc
  rw [List.drop_eq_getElem_cons hi] at h
  constructor
  · intro h1
    rw [List.drop_eq_getElem_cons h1] at h ⊢
    rw [chain_cons] at h
    rw [← h]
    simp
  · intro h1
    have : l.drop (i + 1) = [] := by rw [h1, List.drop_length]
    rw [this, chain_one] at h
    exact h

end Go.Proofs.YthbldjiibgnfmaaGreatDoor
