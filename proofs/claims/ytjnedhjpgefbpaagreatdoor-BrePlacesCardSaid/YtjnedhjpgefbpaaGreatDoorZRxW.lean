/- A text has one reading: of no program. -/
import Derived.Test.YtjnedhjpgefbpaaGreatDoorZRxU
import Derived.Test.YtjnedhjpgefbpaaGreatDoorZRxK
namespace Go.Proofs.YtjnedhjpgefbpaaGreatDoor
open Go.Lib
set_option linter.unusedVariables false
set_option linter.unusedSimpArgs false

/-- How many groups a tree has. -/
def T.groups : T → Nat
  | .leaf _ => 0
  | .two _ a b => a.groups + b.groups
  | .times _ _ t => t.groups
  | .group _ t => t.groups + 1
theorem num_fst : ∀ (t : T) (s u : Nat × (Nat → Bool)), num t s = some u → u.1 = s.1 + t.groups
  | .leaf x, s, u, h => by
    simp only [num] at h
    split at h
    · split at h
      · cases h; rfl
      · cases h
    · cases h; rfl
  | .two k a b, s, u, h => by
    simp only [num, Option.bind_eq_some_iff] at h
    obtain ⟨v, h1, h2⟩ := h
    have e1 := num_fst a s v h1
    have e2 := num_fst b v u h2
    simp only [T.groups]; omega
  | .times m M t, s, u, h => num_fst t s u h
  | .group n t, s, u, h => by
    simp only [num] at h
    split at h
    · simp only [Option.map_eq_some_iff] at h
      obtain ⟨v, h1, rfl⟩ := h
      have := num_fst t _ v h1
      simp only [T.groups] at *; omega
    · cases h

theorem leaf_head {x : Nd} (h : T.Ok (.leaf x)) : ∃ c l, leafText x = c :: l ∧ c ≠ 38 ∧ c ≠ 124 ∧ c ≠ 42 ∧ c ≠ 40 := by
  obtain ⟨_, k⟩ := h
  rcases k with k | k | k | k | k
  · exact ⟨101, [], by simp [leafText, k], by decide, by decide, by decide, by decide⟩
  · exact ⟨91, hexl (bytesOf x.set).data.toList ++ [93], by simp [leafText, k], by decide, by decide, by decide, by decide⟩
  · exact ⟨94, [], by simp [leafText, k], by decide, by decide, by decide, by decide⟩
  · exact ⟨36, [], by simp [leafText, k], by decide, by decide, by decide, by decide⟩
  · exact ⟨92, itoa x.n, by simp [leafText, k], by decide, by decide, by decide, by decide⟩
theorem itoa_no (n : Int) (c : UInt8) (h1 : c.toNat ≠ 45) (h2 : c.toNat < 48 ∨ 57 < c.toNat) : c ∉ itoa n := fun h => by
  have := itoa_mem n c h
  omega

/-- **Unlike trees have unlike texts, and none begins another: P3.5.** -/
theorem text_read : ∀ (t t' : T) (g : Nat) (en en' : Nat → Bool) (u u' : Nat × (Nat → Bool)) (r r' : List UInt8), t.Ok → t'.Ok → TFits t → TFits t' → num t (g, en) = some u → num t' (g, en') = some u' → text t ++ r = text t' ++ r' → t = t' ∧ r = r' := by
  intro t
  induction t with
  | leaf x =>
    intro t' g en en' u u' r r' o o' f f' n n' h
    cases t' with
    | leaf y =>
      obtain ⟨e1, e2⟩ := leaf_read f f' o o' h
      exact ⟨by rw [e1], e2⟩
    | two k a b =>
      obtain ⟨c, l, e, h1, h2, h3, h4⟩ := leaf_head o
      simp only [text, e, List.cons_append, List.cons.injEq] at h
      split at h
      · exact absurd h.1 h1
      · exact absurd h.1 h2
    | times m M t =>
      obtain ⟨c, l, e, h1, h2, h3, h4⟩ := leaf_head o
      simp only [text, e, List.cons_append, List.cons.injEq] at h
      exact absurd h.1 h3
    | group n t =>
      obtain ⟨c, l, e, h1, h2, h3, h4⟩ := leaf_head o
      simp only [text, e, List.cons_append, List.cons.injEq] at h
      exact absurd h.1 h4
  | two k a b iha ihb =>
    intro t' g en en' u u' r r' o o' f f' n n' h
    cases t' with
    | leaf y =>
      obtain ⟨c, l, e, h1, h2, h3, h4⟩ := leaf_head o'
      simp only [text, e, List.cons_append, List.cons.injEq] at h
      split at h
      · exact absurd h.1.symm h1
      · exact absurd h.1.symm h2
    | two k' a' b' =>
      simp only [text, List.cons_append, List.cons.injEq, List.append_assoc] at h
      simp only [num, Option.bind_eq_some_iff] at n n'
      obtain ⟨v, n1, n2⟩ := n
      obtain ⟨v', n1', n2'⟩ := n'
      obtain ⟨e1, e2⟩ := iha a' g en en' v v' _ _ o.2.1 o'.2.1 f.1 f'.1 n1 n1' h.2
      subst e1
      have q : v.1 = v'.1 := by rw [num_fst _ _ _ n1, num_fst _ _ _ n1']
      obtain ⟨v1, v2⟩ := v
      obtain ⟨v1', v2'⟩ := v'
      simp only at q
      subst q
      obtain ⟨e3, e4⟩ := ihb b' v1 v2 v2' u u' _ _ o.2.2 o'.2.2 f.2 f'.2 n2 n2' e2
      subst e3
      have ek : k = k' := by
        have h1 := h.1
        rcases o.1 with rfl | rfl <;> rcases o'.1 with rfl | rfl <;> first | rfl | (simp at h1)
      exact ⟨by rw [ek], e4⟩
    | times m M t =>
      simp only [text, List.cons_append, List.cons.injEq] at h
      have h1 := h.1
      split at h1 <;> exact absurd h1 (by decide)
    | group n t =>
      simp only [text, List.cons_append, List.cons.injEq] at h
      have h1 := h.1
      split at h1 <;> exact absurd h1 (by decide)
  | times m M t ih =>
    intro t' g en en' u u' r r' o o' f f' n n' h
    cases t' with
    | leaf y =>
      obtain ⟨c, l, e, h1, h2, h3, h4⟩ := leaf_head o'
      simp only [text, e, List.cons_append, List.cons.injEq] at h
      exact absurd h.1.symm h3
    | two k a b =>
      simp only [text, List.cons_append, List.cons.injEq] at h
      have h1 := h.1
      split at h1 <;> exact absurd h1.symm (by decide)
    | times m' M' t' =>
      simp only [text, List.cons_append, List.cons.injEq, List.append_assoc, true_and] at h
      obtain ⟨e1, e2⟩ := split_at (itoa_no m 44 (by decide) (by decide)) (itoa_no m' 44 (by decide) (by decide)) h
      obtain ⟨e3, e4⟩ := split_at (itoa_no M 59 (by decide) (by decide)) (itoa_no M' 59 (by decide) (by decide)) e2
      obtain ⟨e5, e6⟩ := ih t' g en en' u u' _ _ o.2 o'.2 f f' n n' e4
      rw [itoa_inj e1, itoa_inj e3, e5]
      exact ⟨rfl, e6⟩
    | group n t =>
      simp only [text, List.cons_append, List.cons.injEq] at h
      exact absurd h.1 (by decide)
  | group n0 t ih =>
    intro t' g en en' u u' r r' o o' f f' n n' h
    cases t' with
    | leaf y =>
      obtain ⟨c, l, e, h1, h2, h3, h4⟩ := leaf_head o'
      simp only [text, e, List.cons_append, List.cons.injEq] at h
      exact absurd h.1.symm h4
    | two k a b =>
      simp only [text, List.cons_append, List.cons.injEq] at h
      have h1 := h.1
      split at h1 <;> exact absurd h1.symm (by decide)
    | times m M t =>
      simp only [text, List.cons_append, List.cons.injEq] at h
      exact absurd h.1 (by decide)
    | group n1 t1 =>
      simp only [text, List.cons_append, List.cons.injEq, List.append_assoc, List.nil_append, true_and] at h
      simp only [num] at n n'
      split at n
      · split at n'
        · rename_i q q'
          simp only [Option.map_eq_some_iff] at n n'
          obtain ⟨v, n2, rfl⟩ := n
          obtain ⟨v', n2', rfl⟩ := n'
          obtain ⟨e1, e2⟩ := ih t1 (g + 1) en en' v v' _ _ o.2 o'.2 f f' n2 n2' h
          simp only [List.cons.injEq, true_and] at e2
          exact ⟨by rw [q, q', e1], e2⟩
        · cases n'
      · cases n

end Go.Proofs.YtjnedhjpgefbpaaGreatDoor

namespace Go.Proofs.YtjnedhjpgefbpaaGreatDoor
open Go.Lib
set_option linter.unusedVariables false
set_option linter.unusedSimpArgs false

/-- How many Refs a tree has. -/
def T.refs : T → Nat
  | .leaf x => if x.kind = 8 then 1 else 0
  | .two _ a b => a.refs + b.refs
  | .times _ _ t => t.refs
  | .group _ t => t.refs

theorem dig_no : ∀ n, n < 16 → dig n ≠ 40 ∧ dig n ≠ 41 ∧ dig n ≠ 92 := by decide +kernel
theorem hexl_no (l : List UInt8) (c : UInt8) (hc : c = 40 ∨ c = 41 ∨ c = 92) : c ∉ hexl l := by
  intro h
  simp only [hexl, List.mem_flatMap] at h
  obtain ⟨b, _, hb⟩ := h
  have hb' := b.toNat_lt
  have a1 := dig_no (b.toNat / 16) (by omega)
  have a2 := dig_no (b.toNat % 16) (by omega)
  simp at hb
  rcases hc with rfl | rfl | rfl <;> rcases hb with hb | hb
  · exact a1.1 hb.symm
  · exact a2.1 hb.symm
  · exact a1.2.1 hb.symm
  · exact a2.2.1 hb.symm
  · exact a1.2.2 hb.symm
  · exact a2.2.2 hb.symm
theorem count_no {c : UInt8} {l : List UInt8} (h : c ∉ l) : l.count c = 0 := List.count_eq_zero.2 h

theorem leaf_count {x : Nd} (h : T.Ok (.leaf x)) : (leafText x).count 40 = 0 ∧ (leafText x).count 41 = 0 ∧ (leafText x).count 92 = if x.kind = 8 then 1 else 0 := by
  obtain ⟨_, k⟩ := h
  rcases k with k | k | k | k | k
  · simp [leafText, k]
  · have a := count_no (hexl_no (bytesOf x.set).data.toList 40 (.inl rfl))
    have b := count_no (hexl_no (bytesOf x.set).data.toList 41 (.inr (.inl rfl)))
    have c := count_no (hexl_no (bytesOf x.set).data.toList 92 (.inr (.inr rfl)))
    simp [leafText, k, List.count_cons, List.count_append, a, b, c]
  · simp [leafText, k]
  · simp [leafText, k]
  · have a := count_no (itoa_no x.n 40 (by decide) (by decide))
    have b := count_no (itoa_no x.n 41 (by decide) (by decide))
    have c := count_no (itoa_no x.n 92 (by decide) (by decide))
    simp [leafText, k, List.count_cons, a, b, c]

theorem text_count : ∀ t : T, t.Ok → (text t).count 40 = t.groups ∧ (text t).count 41 = t.groups ∧ (text t).count 92 = t.refs
  | .leaf x, h => leaf_count h
  | .two k a b, h => by
    obtain ⟨a1, a2, a3⟩ := text_count a h.2.1
    obtain ⟨b1, b2, b3⟩ := text_count b h.2.2
    rcases h.1 with rfl | rfl <;> simp [text, List.count_cons, List.count_append, a1, a2, a3, b1, b2, b3, T.groups, T.refs]
  | .times m M t, h => by
    obtain ⟨a1, a2, a3⟩ := text_count t h.2
    have x1 := count_no (itoa_no m 40 (by decide) (by decide)); have x2 := count_no (itoa_no m 41 (by decide) (by decide)); have x3 := count_no (itoa_no m 92 (by decide) (by decide))
    have y1 := count_no (itoa_no M 40 (by decide) (by decide)); have y2 := count_no (itoa_no M 41 (by decide) (by decide)); have y3 := count_no (itoa_no M 92 (by decide) (by decide))
    simp [text, List.count_cons, List.count_append, a1, a2, a3, x1, x2, x3, y1, y2, y3, T.groups, T.refs]
  | .group n t, h => by
    obtain ⟨a1, a2, a3⟩ := text_count t h.2
    simp [text, List.count_cons, List.count_append, a1, a2, a3, T.groups, T.refs]

/-- Groups are numbered to 9 at most. -/
theorem num_nine : ∀ (t : T) (s u : Nat × (Nat → Bool)), t.Ok → num t s = some u → s.1 ≤ 9 → u.1 ≤ 9
  | .leaf x, s, u, o, h, h9 => by
    have := num_fst _ s u h
    simp only [T.groups] at this; omega
  | .two k a b, s, u, o, h, h9 => by
    simp only [num, Option.bind_eq_some_iff] at h
    obtain ⟨v, h1, h2⟩ := h
    exact num_nine b v u o.2.2 h2 (num_nine a s v o.2.1 h1 h9)
  | .times m M t, s, u, o, h, h9 => num_nine t s u o.2 h h9
  | .group n t, s, u, o, h, h9 => by
    simp only [num] at h
    split at h
    · rename_i q
      simp only [Option.map_eq_some_iff] at h
      obtain ⟨v, h1, rfl⟩ := h
      have := num_of o.1
      exact num_nine t (s.1 + 1, s.2) v o.2 h1 (by show s.1 + 1 ≤ 9; omega)
    · cases h

theorem gcnt_step {xs : List Nd} {k : Nat} {x : Nd} (h : xs[k]? = some x) : gcnt xs (k + 1) = gcnt xs k + (if x.kind = 7 then 1 else 0) := by simp only [gcnt, h]

/-- The nodes of a tree: as many groups, and a Ref just if the tree has one. -/
theorem tree_nodes {xs : List Nd} : ∀ (t : T) (o : Nat), t.Ok → T.At (fun i => xs[i]?) t o → gcnt xs (o + t.size) = gcnt xs o + t.groups ∧ (anyRef xs (o + t.size) ↔ anyRef xs o ∨ 0 < t.refs)
  | .leaf x, o, h, a => by
    have hx : xs[o]? = some x := a
    have hk := h.2
    refine ⟨?_, ?_⟩
    · show gcnt xs (o + 1) = _
      rw [gcnt_step hx, if_neg (by omega)]; rfl
    · show anyRef xs (o + 1) ↔ _
      constructor
      · rintro ⟨j, y, hj, hy, h8⟩
        by_cases e : j = o
        · subst e; rw [hx] at hy; cases hy; right; simp [T.refs, h8]
        · exact .inl ⟨j, y, by omega, hy, h8⟩
      · rintro (⟨j, y, hj, hy, h8⟩ | h)
        · exact ⟨j, y, by omega, hy, h8⟩
        · refine ⟨o, x, by omega, hx, ?_⟩
          simp only [T.refs] at h
          split at h
          · assumption
          · omega
  | .two k p q, o, h, a => by
    obtain ⟨a1, a2⟩ := tree_nodes p o h.2.1 a.1
    obtain ⟨b1, b2⟩ := tree_nodes q (o + p.size) h.2.2 a.2.1
    have hx := a.2.2
    have hk : (T.root (.two k p q) o).kind = k := rfl
    have e : o + (T.two k p q).size = o + p.size + q.size + 1 := by simp only [T.size]; omega
    rw [e]
    refine ⟨?_, ?_⟩
    · rw [gcnt_step hx, b1, a1, hk, if_neg (by rcases h.1 with rfl | rfl <;> decide)]; simp only [T.groups]; omega
    · constructor
      · rintro ⟨j, y, hj, hy, h8⟩
        by_cases ej : j = o + p.size + q.size
        · subst ej
          have : (some (T.root (.two k p q) o) : Option Nd) = some y := by rw [← hx]; exact hy
          cases this
          exfalso
          rw [hk] at h8
          rcases h.1 with rfl | rfl <;> cases h8
        · rcases b2.1 ⟨j, y, by omega, hy, h8⟩ with h' | h'
          · rcases a2.1 h' with h'' | h''
            · exact .inl h''
            · right; simp only [T.refs]; omega
          · right; simp only [T.refs]; omega
      · intro h'
        have up : ∀ m, m ≤ o + p.size + q.size → anyRef xs m → anyRef xs (o + p.size + q.size + 1) := fun m hm ⟨j, y, hj, hy, h8⟩ => ⟨j, y, by omega, hy, h8⟩
        rcases h' with h' | h'
        · exact up _ (by omega) h'
        · simp only [T.refs] at h'
          by_cases hp : 0 < p.refs
          · exact up _ (by omega) (a2.2 (.inr hp))
          · exact up _ (by omega) (b2.2 (.inr (by omega)))
  | .times m M p, o, h, a => by
    obtain ⟨a1, a2⟩ := tree_nodes p o h.2 a.1
    have hx := a.2
    have hk : (T.root (.times m M p) o).kind = 6 := rfl
    have e : o + (T.times m M p).size = o + p.size + 1 := by simp only [T.size]; omega
    rw [e]
    refine ⟨?_, ?_⟩
    · rw [gcnt_step hx, a1, hk, if_neg (by decide)]; simp only [T.groups]; omega
    · constructor
      · rintro ⟨j, y, hj, hy, h8⟩
        by_cases ej : j = o + p.size
        · subst ej
          have : (some (T.root (.times m M p) o) : Option Nd) = some y := by rw [← hx]; exact hy
          cases this
          cases h8
        · rcases a2.1 ⟨j, y, by omega, hy, h8⟩ with h' | h'
          · exact .inl h'
          · right; simpa only [T.refs] using h'
      · intro h'
        obtain ⟨j, y, hj, hy, h8⟩ := a2.2 (h'.imp id (by simp only [T.refs]; exact id))
        exact ⟨j, y, by omega, hy, h8⟩
  | .group n p, o, h, a => by
    obtain ⟨a1, a2⟩ := tree_nodes p o h.2 a.1
    have hx := a.2
    have hk : (T.root (.group n p) o).kind = 7 := rfl
    have e : o + (T.group n p).size = o + p.size + 1 := by simp only [T.size]; omega
    rw [e]
    refine ⟨?_, ?_⟩
    · rw [gcnt_step hx, a1, hk, if_pos rfl]; simp only [T.groups]; omega
    · constructor
      · rintro ⟨j, y, hj, hy, h8⟩
        by_cases ej : j = o + p.size
        · subst ej
          have : (some (T.root (.group n p) o) : Option Nd) = some y := by rw [← hx]; exact hy
          cases this
          cases h8
        · rcases a2.1 ⟨j, y, by omega, hy, h8⟩ with h' | h'
          · exact .inl h'
          · right; simpa only [T.refs] using h'
      · intro h'
        obtain ⟨j, y, hj, hy, h8⟩ := a2.2 (h'.imp id (by simp only [T.refs]; exact id))
        exact ⟨j, y, by omega, hy, h8⟩

end Go.Proofs.YtjnedhjpgefbpaaGreatDoor
