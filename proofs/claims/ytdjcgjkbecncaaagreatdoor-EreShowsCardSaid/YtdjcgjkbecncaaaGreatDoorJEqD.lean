/- Of no program: what is read is a pattern, and is printed as a text that says it again. -/
import Derived.Test.YtdjcgjkbecncaaaGreatDoorJBtF
import Derived.Test.YtdjcgjkbecncaaaGreatDoorJEpB
import Derived.Test.YtdjcgjkbecncaaaGreatDoorJEqB
set_option linter.unusedVariables false
set_option linter.unusedSimpArgs false
set_option maxRecDepth 100000
set_option maxHeartbeats 40000000
namespace Go.Proofs.YtdjcgjkbecncaaaGreatDoor
open Go.RowKit Go.Lib
theorem nodes_at : ∀ (t : T) (pre post : List Nd), T.At (fun i => (pre ++ t.nodes pre.length ++ post)[i]?) t pre.length
 | .leaf x, pre, post => by
  show (pre ++ [x] ++ post)[pre.length]? = some x
  simp
 | .two k a b, pre, post => by
  have hl : (pre ++ a.nodes pre.length).length = pre.length + a.size := by rw [List.length_append, T.nodes_len]
  have A := nodes_at a pre (b.nodes (pre.length + a.size) ++ [T.root (.two k a b) pre.length] ++ post)
  have B := nodes_at b (pre ++ a.nodes pre.length) ([T.root (.two k a b) pre.length] ++ post)
  rw [hl] at B
  have e1 : pre ++ a.nodes pre.length ++ (b.nodes (pre.length + a.size) ++ [T.root (.two k a b) pre.length] ++ post) = pre ++ (T.two k a b).nodes pre.length ++ post := by simp [T.nodes]
  have e2 : pre ++ a.nodes pre.length ++ b.nodes (pre.length + a.size) ++ ([T.root (.two k a b) pre.length] ++ post) = pre ++ (T.two k a b).nodes pre.length ++ post := by simp [T.nodes]
  rw [e1] at A
  rw [e2] at B
  refine ⟨A, B, ?_⟩
  have hl2 : (pre ++ a.nodes pre.length ++ b.nodes (pre.length + a.size)).length = pre.length + a.size + b.size := by rw [List.length_append, hl, T.nodes_len]
  show (pre ++ (T.two k a b).nodes pre.length ++ post)[pre.length + a.size + b.size]? = _
  rw [← e2, List.getElem?_append_right (by omega), hl2]
  simp
 | .times m M t, pre, post => by
  have A := nodes_at t pre ([T.root (.times m M t) pre.length] ++ post)
  have e1 : pre ++ t.nodes pre.length ++ ([T.root (.times m M t) pre.length] ++ post) = pre ++ (T.times m M t).nodes pre.length ++ post := by simp [T.nodes]
  have hl : (pre ++ t.nodes pre.length).length = pre.length + t.size := by rw [List.length_append, T.nodes_len]
  rw [e1] at A
  refine ⟨A, ?_⟩
  show (pre ++ (T.times m M t).nodes pre.length ++ post)[pre.length + t.size]? = _
  rw [← e1, List.getElem?_append_right (by omega), hl]
  simp
 | .group n t, pre, post => by
  have A := nodes_at t pre ([T.root (.group n t) pre.length] ++ post)
  have e1 : pre ++ t.nodes pre.length ++ ([T.root (.group n t) pre.length] ++ post) = pre ++ (T.group n t).nodes pre.length ++ post := by simp [T.nodes]
  have hl : (pre ++ t.nodes pre.length).length = pre.length + t.size := by rw [List.length_append, T.nodes_len]
  rw [e1] at A
  refine ⟨A, ?_⟩
  show (pre ++ (T.group n t).nodes pre.length ++ post)[pre.length + t.size]? = _
  rw [← e1, List.getElem?_append_right (by omega), hl]
  simp
theorem ndOk_two (k a b : Int) (h : k = 4 ∨ k = 5) : isNd ⟨k, 0, 0, 0, 0, a, b, 0, 0, 0⟩ = true := by
 unfold isNd
 rcases h with rfl | rfl <;> simp
theorem ndOk_times (a m M : Int) (h : isCnt m M = true) : isNd ⟨6, 0, 0, 0, 0, a, 0, m, M, 0⟩ = true := by
 unfold isNd
 simp [h]
theorem ndOk_group (a n : Int) (h : isNum n = true) : isNd ⟨7, 0, 0, 0, 0, a, 0, 0, 0, n⟩ = true := by
 unfold isNd
 simp [h]
theorem nodes_isNd : ∀ (t : T), t.Ok → ∀ (o : Nat), ∀ x ∈ t.nodes o, isNd x = true
 | .leaf y, h, o, x, hx => by
  rw [List.mem_singleton.1 hx]; exact h.1
 | .two k a b, h, o, x, hx => by
  simp only [T.nodes, List.mem_append, List.mem_singleton] at hx
  rcases hx with q | q | rfl
  ·exact nodes_isNd a h.2.1 _ x q
  ·exact nodes_isNd b h.2.2 _ x q
  ·exact ndOk_two _ _ _ h.1
 | .times m M t, h, o, x, hx => by
  simp only [T.nodes, List.mem_append, List.mem_singleton] at hx
  rcases hx with q | rfl
  ·exact nodes_isNd t h.2 _ x q
  ·exact ndOk_times _ _ _ h.1
 | .group n t, h, o, x, hx => by
  simp only [T.nodes, List.mem_append, List.mem_singleton] at hx
  rcases hx with q | rfl
  ·exact nodes_isNd t h.2 _ x q
  ·exact ndOk_group _ _ h.1
theorem nodes_fits : ∀ (t : T) (fi la : Bool), Canon fi la t → ∀ (o : Nat), o + t.size ≤ 120 → ∀ x ∈ t.nodes o, x.Fits
 | .leaf y, fi, la, h, o, hs, x, hx => by
  rw [List.mem_singleton.1 hx]; exact h.2.1
 | .two k a b, fi, la, h, o, hs, x, hx => by
  have hs' : o + (a.size + b.size + 1) ≤ 120 := hs
  simp only [T.nodes, List.mem_append, List.mem_singleton] at hx
  rcases hx with q | q | rfl
  ·exact nodes_fits a _ _ h.2.2.1 _ (by omega) x q
  ·exact nodes_fits b _ _ h.2.2.2 _ (by omega) x q
  ·have := h.2.1
   subst this
   exact bsmall_fits (by decide) (by omega) (by omega) (by decide) (by decide) (by decide)
 | .times m M t, fi, la, h, o, hs, x, hx => by
  have hs' : o + (t.size + 1) ≤ 120 := hs
  have := isCnt_of h.1
  simp only [T.nodes, List.mem_append, List.mem_singleton] at hx
  rcases hx with q | rfl
  ·exact nodes_fits t _ _ h.2.2 _ (by omega) x q
  ·exact bsmall_fits (by decide) (by omega) (by decide) (by omega) (by omega) (by decide)
 | .group n t, fi, la, h, o, hs, x, hx => by
  have hs' : o + (t.size + 1) ≤ 120 := hs
  have := num_of h.1
  simp only [T.nodes, List.mem_append, List.mem_singleton] at hx
  rcases hx with q | rfl
  ·exact nodes_fits t _ _ h.2 _ (by omega) x q
  ·exact bsmall_fits (by decide) (by omega) (by decide) (by decide) (by decide) (by omega)
theorem kindAt_root {xs : List Nd} {t : T} {o : Nat} (h : T.At (fun i => xs[i]?) t o) (z : Int) (hz : z = (o : Int) + t.size - 1) : kindAt xs z = (t.root o).kind := by
 have := t.size_pos
 have hr := h.root
 obtain ⟨k, hk⟩ : ∃ k, o + t.size = k + 1 := ⟨o + t.size - 1, by omega⟩
 have e : o + t.size - 1 = k := by omega
 rw [e] at hr
 have ez : z = (k : Int) := by omega
 subst ez
 unfold kindAt
 simp only [Int.toNat_natCast]
 rw [hr]
theorem nodes_pOk {xs : List Nd} : ∀ (t : T) (fi la : Bool) (o : Nat), Canon fi la t → T.At (fun i => xs[i]?) t o → ∀ x ∈ t.nodes o, pOk xs x
 | .leaf y, fi, la, o, h, ha, x, hx => by
  rw [List.mem_singleton.1 hx]
  unfold pOk
  rcases h.2.2 with k | k | k | k
  ·rw [if_neg (by omega), if_neg (by omega), if_neg (by omega), if_neg (by omega)]; trivial
  ·rw [if_neg (by omega), if_neg (by omega), if_neg (by omega), if_neg (by omega)]; trivial
  ·rw [if_neg (by omega), if_neg (by omega), if_neg (by omega), if_neg (by omega)]; trivial
  ·rw [if_neg (by omega), if_neg (by omega), if_neg (by omega), if_neg (by omega)]; trivial
 | .two k a b, fi, la, o, h, ha, x, hx => by
  obtain ⟨_, rfl, hca, hcb⟩ := h
  simp only [T.nodes, List.mem_append, List.mem_singleton] at hx
  rcases hx with q | q | rfl
  ·exact nodes_pOk a _ _ _ hca ha.1 x q
  ·exact nodes_pOk b _ _ _ hcb ha.2.1 x q
  ·have ka := kindAt_root ha.1 ((o : Int) + a.size - 1) rfl
   have kb := kindAt_root ha.2.1 ((o : Int) + a.size + b.size - 1) (by omega)
   have na : (a.root o).kind ≠ 4 ∧ (a.root o).kind ≠ 5 := by
    cases a with
    | leaf y => rcases hca.2.2 with k | k | k | k <;> (simp only [T.root]; omega)
    | two _ _ _ => exact absurd hca.1 (by decide)
    | times _ _ _ => exact ⟨(by decide : (6 : Int) ≠ 4), (by decide : (6 : Int) ≠ 5)⟩
    | group _ _ => exact ⟨(by decide : (7 : Int) ≠ 4), (by decide : (7 : Int) ≠ 5)⟩
   have nb : (b.root (o + a.size)).kind ≠ 5 := by
    cases b with
    | leaf y => rcases hcb.2.2 with k | k | k | k <;> (simp only [T.root]; omega)
    | two k' _ _ =>
     have := hcb.2.1
     subst this
     exact (by decide : (4 : Int) ≠ 5)
    | times _ _ _ => exact (by decide : (6 : Int) ≠ 5)
    | group _ _ => exact (by decide : (7 : Int) ≠ 5)
   unfold pOk
   rw [if_neg (by simp [T.root]), if_pos (by rfl)]
   refine ⟨?_, ?_, ?_⟩
   ·show kindAt xs ((o : Int) + a.size - 1) ≠ 4
    rw [ka]; exact na.1
   ·show kindAt xs ((o : Int) + a.size - 1) ≠ 5
    rw [ka]; exact na.2
   ·show kindAt xs ((o : Int) + a.size + b.size - 1) ≠ 5
    rw [kb]; exact nb
 | .times m M t, fi, la, o, h, ha, x, hx => by
  obtain ⟨_, hnt, hct⟩ := h
  simp only [T.nodes, List.mem_append, List.mem_singleton] at hx
  rcases hx with q | rfl
  ·exact nodes_pOk t _ _ _ hct ha.1 x q
  ·have kt := kindAt_root ha.1 ((o : Int) + t.size - 1) rfl
   unfold pOk
   rw [if_neg (by simp [T.root]), if_neg (by simp [T.root]), if_neg (by simp [T.root]), if_pos (by rfl)]
   show kindAt xs ((o : Int) + t.size - 1) = 1 ∨ kindAt xs ((o : Int) + t.size - 1) = 7 ∨ kindAt xs ((o : Int) + t.size - 1) = 8
   rw [kt]
   cases t with
   | leaf y =>
    rcases hct.2.2 with k | k | k | k
    ·exact .inl k
    ·exact .inr (.inr k)
    ·exact absurd k.2 (by decide)
    ·exact absurd k.2 (by decide)
   | two _ _ _ => exact absurd hct.1 (by decide)
   | times _ _ _ => cases hnt
   | group _ _ => exact .inr (.inl rfl)
 | .group n t, fi, la, o, h, ha, x, hx => by
  simp only [T.nodes, List.mem_append, List.mem_singleton] at hx
  rcases hx with q | rfl
  ·exact nodes_pOk t _ _ _ h.2 ha.1 x q
  ·unfold pOk
   rw [if_neg (by simp [T.root]), if_neg (by simp [T.root]), if_neg (by simp [T.root]), if_neg (by simp [T.root])]
   trivial
theorem canon_pat {t : T} (h : Canon true true t) (hs : t.size ≤ 120) (hn : (num t (0, fun _ => false)).isSome = true) : IsPat (t.nodes 0) t := by
 have ho := canon_ok t _ _ h
 have ha : T.At (fun i => (t.nodes 0)[i]?) t 0 := by
  have := nodes_at t [] []
  simpa using this
 have hl := T.nodes_len t 0
 exact ⟨ho, ha, hl.symm, by omega, fun i x hx => nodes_isNd t ho 0 x (List.mem_of_getElem? hx), fun i x hx => nodes_pOk t _ _ 0 h ha x (List.mem_of_getElem? hx), hn⟩
theorem empty_pat : IsPat [kindNd 0] (.leaf (kindNd 0)) := by
 refine ⟨⟨by decide, .inl rfl⟩, rfl, rfl, by decide, ?_, ?_, rfl⟩
 ·intro i x hx
  have : x = kindNd 0 := by simpa using List.mem_of_getElem? hx
  subst this
  decide
 ·intro i x hx
  have : x = kindNd 0 := by simpa using List.mem_of_getElem? hx
  subst this
  rfl
end Go.Proofs.YtdjcgjkbecncaaaGreatDoor
namespace Go.Proofs.YtdjcgjkbecncaaaGreatDoor
open Go.RowKit Go.Lib
def tmS (u : List UInt8) : List UInt8 := [97, 92, 123] ++ u ++ [92, 125]
theorem tmS_len (u : List UInt8) : (tmS u).length = u.length + 5 := by simp [tmS]
theorem isCnt_to {m M : Int} (h0 : 0 ≤ m) (h : isCountP m M = true) : isCnt m M = true := by
 unfold isCountP at h
 split at h
 ·cases h
 ·simp only [Bool.or_eq_true, Bool.and_eq_true, decide_eq_true_iff] at h
  unfold isCnt
  rw [if_neg (by omega), decide_eq_true_iff]
  omega
theorem timesP_isCnt {s : List UInt8} {i k : Nat} {a b : Int} (h : timesP s i = some (a, b, k)) : isCnt a b = true := by
 unfold timesP at h
 split at h
 ·cases h; decide
 ·simp only at h
  have hn : 0 ≤ (numP s (sk s i [92, 123])).1 := by unfold numP; exact Int.natCast_nonneg _
  generalize numP s (sk s i [92, 123]) = u at h hn
  generalize (if ah s u.2.2 [44] then (if ah s (u.2.2 + 1) [92, 125] then ((-1 : Int), true, u.2.2 + 1) else numP s (u.2.2 + 1)) else u) = v at h
  split at h
  ·cases h
  ·rename_i q
   simp only [Bool.or_eq_true, Bool.not_eq_true', not_or, Bool.not_eq_false] at q
   have hc := q.2
   cases h
   exact isCnt_to hn hc
theorem timesP_end {u : List UInt8} (hu : ∀ c ∈ u, c ≠ 125) {k : Nat} {a b : Int} (h : timesP (tmS u) 1 = some (a, b, k)) : k = (tmS u).length := by
 have e1 : ah (tmS u) 1 [42] = false := by rw [ah_one]; simp [tmS]
 unfold timesP at h
 rw [e1] at h
 simp only [Bool.false_eq_true, if_false] at h
 generalize numP (tmS u) (sk (tmS u) 1 [92, 123]) = x at h
 generalize (if ah (tmS u) x.2.2 [44] then (if ah (tmS u) (x.2.2 + 1) [92, 125] then ((-1 : Int), true, x.2.2 + 1) else numP (tmS u) (x.2.2 + 1)) else x) = v at h
 split at h
 ·cases h
 ·rename_i q
  simp only [Bool.or_eq_true, Bool.not_eq_true', not_or, Bool.not_eq_false] at q
  have hc := q.1.2
  cases h
  rw [ah_two] at hc
  simp only [Bool.and_eq_true, beq_iff_eq] at hc
  have hl := tmS_len u
  have h2 := hc.2
  have hlt := (List.getElem?_eq_some_iff.1 h2).1
  rcases Nat.lt_or_ge (v.2.2 + 1) (u.length + 4) with q1 | q1
  ·exfalso
   unfold tmS at h2
   rcases Nat.lt_or_ge (v.2.2 + 1) (u.length + 3) with q3 | q3
   ·have e : ([97, 92, 123] ++ u ++ [92, 125])[v.2.2 + 1]? = ([97, 92, 123] ++ u)[v.2.2 + 1]? := List.getElem?_append_left (by simp only [List.length_append, List.length_cons, List.length_nil]; omega)
    rw [e] at h2
    rcases Nat.lt_or_ge (v.2.2 + 1) 3 with q2 | q2
    ·have e : ([97, 92, 123] ++ u)[v.2.2 + 1]? = ([97, 92, 123] : List UInt8)[v.2.2 + 1]? := List.getElem?_append_left (by simpa using q2)
     rw [e] at h2
     rcases (by omega : v.2.2 + 1 = 1 ∨ v.2.2 + 1 = 2) with e | e <;> (rw [e] at h2; simp at h2)
    ·have e : ([97, 92, 123] ++ u)[v.2.2 + 1]? = u[v.2.2 + 1 - ([97, 92, 123] : List UInt8).length]? := List.getElem?_append_right (by simpa using q2)
     rw [e] at h2
     exact hu _ (List.mem_of_getElem? h2) rfl
   ·have e : ([97, 92, 123] ++ u ++ [92, 125])[v.2.2 + 1]? = ([92, 125] : List UInt8)[v.2.2 + 1 - ([97, 92, 123] ++ u).length]? := List.getElem?_append_right (by simp only [List.length_append, List.length_cons, List.length_nil]; omega)
    have e0 : v.2.2 + 1 - ([97, 92, 123] ++ u).length = 0 := by simp only [List.length_append, List.length_cons, List.length_nil]; omega
    rw [e, e0] at h2
    simp at h2
  ·omega
theorem whole_num (u : List UInt8) (hu : ∀ c ∈ u, c ≠ 125) : wholeP (tmS u) = match timesP (tmS u) 1 with
  | none => .error (43, 1)
  | some (a, b, k) => .ok ⟨k, [byNd (rg 97 97), ⟨6, 0, 0, 0, 0, 0, 0, a, b, 0⟩], 0, fun _ => false⟩ := by
 have hlen := tmS_len u
 have h0 : (tmS u)[0]? = some 97 := rfl
 have hne : tmS u ≠ [] := by simp [tmS]
 have a0 : ah (tmS u) 0 [94] = false := by rw [ah_one, h0]; decide
 have a1 : ah (tmS u) 0 [92, 41] = false := by rw [ah_two, h0]; simp
 have e0 : endsP (tmS u) 0 = false := by unfold endsP; rw [a1, decide_eq_false (by omega)]; rfl
 have t1 : isTimesP (tmS u) 1 = true := by
  unfold isTimesP
  rw [ah_two, Bool.or_eq_true]
  exact .inr rfl
 have hitem : itemP (tmS u) (rowP (tmS u) 9) ⟨0, [], 0, fun _ => false⟩ = behP (tmS u) ⟨1, [byNd (rg 97 97)], 0, fun _ => false⟩ := rfl
 unfold wholeP
 rw [if_neg hne]
 try simp only
 rw [rowP]
 simp only [a0, Bool.false_eq_true, if_false]
 rw [itemsP]
 simp only [e0, Bool.false_eq_true, if_false]
 rw [hitem]
 unfold behP
 simp only [t1, Bool.not_true, Bool.false_eq_true, if_false]
 cases hq : timesP (tmS u) 1 with
 | none => rfl
 | some p =>
  obtain ⟨a, b, k⟩ := p
  have hk := timesP_end hu hq
  have hd : (tmS u).drop k = [] := by rw [hk, List.drop_length]
  have t2 : isTimesP (tmS u) k = false := by
   unfold isTimesP ah
   rw [hd]; rfl
  have e2 : endsP (tmS u) k = true := by unfold endsP; rw [decide_eq_true hk, Bool.true_or]
  simp only [t2, Bool.false_eq_true, if_false]
  rw [hlen, itemsP]
  have e3 : endsP (tmS u) (BRd.put (BRd.to ⟨1, [byNd (rg 97 97)], 0, fun _ => false⟩ k) ⟨6, 0, 0, 0, 0, ((1 : Nat) : Int) - 1, 0, a, b, 0⟩).p = true := e2
  simp only [List.length_cons, List.length_nil, Nat.zero_add]
  rw [e3]
  simp only [if_true, List.nil_append, List.reverse_cons, List.reverse_nil]
  have hput : BRd.put (BRd.to ⟨1, [byNd (rg 97 97)], 0, fun _ => false⟩ k) ⟨6, 0, 0, 0, 0, ((1 : Nat) : Int) - 1, 0, a, b, 0⟩ = ⟨k, [byNd (rg 97 97), ⟨6, 0, 0, 0, 0, 0, 0, a, b, 0⟩], 0, fun _ => false⟩ := rfl
  rw [hput]
  simp only [catsP]
  have e5 : k = u.length + 5 := by omega
  simp [e5]
theorem tw_ne (u : List UInt8) : ∀ c ∈ u.takeWhile (· != 125), c ≠ 125 := fun c hc => by
 have := List.all_eq_true.1 (List.all_takeWhile (p := (· != 125)) (l := u)) c hc
 simpa using this
theorem numE_eq (u : List UInt8) : numE u = match timesP (tmS (u.takeWhile (· != 125))) 1 with
  | none => none
  | some (a, b, k) => if u.any (· == 125) then some ((u.takeWhile (· != 125)).length + 2, a, b) else none := by
 unfold numE
 rw [show [97, 92, 123] ++ u.takeWhile (· != 125) ++ [92, 125] = tmS (u.takeWhile (· != 125)) from rfl, whole_num _ (tw_ne u)]
 cases timesP (tmS (u.takeWhile (· != 125))) 1 with
 | none => rfl
 | some p => rfl
theorem numE_ok {u : List UInt8} {n : Nat} {m M : Int} (h : numE u = some (n, m, M)) : isCnt m M = true ∧ 2 ≤ n := by
 rw [numE_eq] at h
 split at h
 ·cases h
 ·rename_i a b k hq
  split at h
  ·cases h
   exact ⟨timesP_isCnt hq, by omega⟩
  ·cases h
def TokOk (L : Nat) : Tk5 → Prop
 | .it x n f => isNd x = true ∧ x.Fits ∧ 1 ≤ n ∧ n ≤ L ∧ ((x.kind = 1 ∧ f = true) ∨ ((x.kind = 2 ∨ x.kind = 3) ∧ f = false))
 | .tm n m M => isCnt m M = true ∧ 1 ≤ n ∧ n ≤ L
 | .er e => 40 ≤ e ∧ e ≤ 44
 | _ => True
theorem tok_set {F : Nat → Bool} {n L : Nat} (h : noneIn F = false) (hn : 1 ≤ n) (hL : n ≤ L) : TokOk L (.it (setNd F) n true) := ⟨isNd_byNd h, byNd_fits F, hn, hL, .inl ⟨rfl, rfl⟩⟩
theorem none_eq (c : UInt8) : noneIn (fun i => i == c.toNat) = false := by
 refine none_no (F := rg c.toNat c.toNat) ?_ (fun i hi => ?_)
 ·intro hz
  have := cnt_zero hz c.toNat c.toNat_lt
  simp [rg] at this
 ·rw [Bool.eq_iff_iff]
  simp [rg]
  omega
theorem tok_ok (s : List UInt8) (p : Nat) (b : UInt8) (hb : s[p]? = some b) : TokOk (s.length - p) (tokE s p b) := by
 have hp := (List.getElem?_eq_some_iff.1 hb).1
 unfold tokE
 by_cases c1 : b = 94
 ·rw [if_pos c1]; exact ⟨by decide, bsmall_fits (by decide) (by decide) (by decide) (by decide) (by decide) (by decide), Nat.le_refl _, by omega, .inr ⟨.inl rfl, rfl⟩⟩
 rw [if_neg c1]
 by_cases c2 : b = 36
 ·rw [if_pos c2]; exact ⟨by decide, bsmall_fits (by decide) (by decide) (by decide) (by decide) (by decide) (by decide), Nat.le_refl _, by omega, .inr ⟨.inr rfl, rfl⟩⟩
 rw [if_neg c2]
 by_cases c3 : b = 46
 ·rw [if_pos c3]; exact tok_set none_all (Nat.le_refl _) (by omega)
 rw [if_neg c3]
 by_cases c4 : b = 91
 ·rw [if_pos c4]
  cases hq : brkP (s.drop p) with
  | none => exact ⟨by decide, by decide⟩
  | some a =>
   obtain ⟨F, m⟩ := a
   have hbl := brkP_le hq
   simp only [List.length_drop] at hbl
   exact tok_set (brk_some hq) (by omega) (by omega)
 rw [if_neg c4]
 by_cases c5 : b = 40
 ·rw [if_pos c5]; trivial
 rw [if_neg c5]
 by_cases c6 : b = 41
 ·rw [if_pos c6]; trivial
 rw [if_neg c6]
 by_cases c7 : b = 124
 ·rw [if_pos c7]; trivial
 rw [if_neg c7]
 by_cases c8 : b = 92
 ·rw [if_pos c8]
  unfold escK
  cases hd : s[p + 1]? with
  | none => exact ⟨by decide, by decide⟩
  | some d =>
   have hd2 := (List.getElem?_eq_some_iff.1 hd).1
   simp only
   by_cases d1 : d = 110
   ·rw [if_pos d1]; exact tok_set (by decide +kernel) (by decide) (by omega)
   rw [if_neg d1]
   by_cases d2 : d = 47 ∨ d ∈ ([46, 91, 92, 40, 41, 42, 43, 63, 123, 125, 124, 94, 36] : List UInt8)
   ·rw [if_pos d2]; exact tok_set (none_eq d) (by decide) (by omega)
   rw [if_neg d2]
   by_cases d3 : 49 ≤ d.toNat ∧ d.toNat ≤ 57
   ·rw [if_pos d3]; exact ⟨by decide, by decide⟩
   rw [if_neg d3]; exact ⟨by decide, by decide⟩
 rw [if_neg c8]
 by_cases c9 : b = 42
 ·rw [if_pos c9]; exact ⟨by decide, Nat.le_refl _, by omega⟩
 rw [if_neg c9]
 by_cases c10 : b = 43
 ·rw [if_pos c10]; exact ⟨by decide, Nat.le_refl _, by omega⟩
 rw [if_neg c10]
 by_cases c11 : b = 63
 ·rw [if_pos c11]; exact ⟨by decide, Nat.le_refl _, by omega⟩
 rw [if_neg c11]
 by_cases c12 : b = 123
 ·rw [if_pos c12]
  cases hn : numE (s.drop (p + 1)) with
  | none => exact ⟨by decide, by decide⟩
  | some a =>
   obtain ⟨n, m, M⟩ := a
   have h1 := numE_ok hn
   have h2 := numE_le hn
   simp only [List.length_drop] at h2
   exact ⟨h1.1, by omega, by omega⟩
 rw [if_neg c12]
 exact tok_set (none_eq b) (Nat.le_refl _) (by omega)
end Go.Proofs.YtdjcgjkbecncaaaGreatDoor
namespace Go.Proofs.YtdjcgjkbecncaaaGreatDoor
open Go.RowKit Go.Lib
def T.isAtom : T → Bool
 | .leaf x => decide (x.kind = 1)
 | .group _ _ => true
 | _ => false
def Can5 : Nat → T → Prop
 | _, .leaf x => isNd x = true ∧ x.Fits ∧ (x.kind = 1 ∨ x.kind = 2 ∨ x.kind = 3)
 | v, .two k a b => (k = 5 ∧ v = 2 ∧ Can5 1 a ∧ Can5 2 b) ∨ (k = 4 ∧ 1 ≤ v ∧ Can5 0 a ∧ Can5 1 b)
 | _, .times m M t => isCnt m M = true ∧ t.isAtom = true ∧ Can5 0 t
 | _, .group n t => isNum n = true ∧ Can5 2 t
theorem can_up {v u : Nat} {t : T} (h : Can5 v t) (h1 : v ≤ u) (h2 : u ≤ 2) : Can5 u t := by
 cases t with
 | leaf x => exact h
 | two k a b =>
  rcases h with ⟨k5, rfl, h3⟩ | ⟨k4, h3, h4⟩
  ·exact .inl ⟨k5, by omega, h3⟩
  ·exact .inr ⟨k4, by omega, h4⟩
 | times m M t => exact h
 | group n t => exact h
theorem can_cat : ∀ (l : List T), l ≠ [] → (∀ t ∈ l, Can5 0 t) → Can5 1 (chT 4 l)
 | [], h, _ => absurd rfl h
 | [t], _, h => can_up (h t (by simp)) (by omega) (by omega)
 | t :: u :: l, _, h => .inr ⟨rfl, Nat.le_refl _, h t (by simp), can_cat (u :: l) (by simp) (fun x hx => h x (by simp [hx]))⟩
theorem can_alt : ∀ (l : List T), l ≠ [] → (∀ t ∈ l, Can5 1 t) → Can5 2 (chT 5 l)
 | [], h, _ => absurd rfl h
 | [t], _, h => can_up (h t (by simp)) (by omega) (by omega)
 | t :: u :: l, _, h => .inl ⟨rfl, rfl, h t (by simp), can_alt (u :: l) (by simp) (fun x hx => h x (by simp [hx]))⟩
def grp : T → Nat
 | .leaf _ => 0
 | .two _ a b => grp a + grp b
 | .times _ _ t => grp t
 | .group _ t => grp t + 1
def NumOk : T → Nat → Prop
 | .leaf _, _ => True
 | .two _ a b, k => NumOk a k ∧ NumOk b (k + grp a)
 | .times _ _ t, k => NumOk t k
 | .group n t, k => n = (k : Int) + 1 ∧ NumOk t (k + 1)
def grpL (l : List T) : Nat := (l.map grp).sum
def NumL : List T → Nat → Prop
 | [], _ => True
 | t :: l, k => NumOk t k ∧ NumL l (k + grp t)
theorem grpL_app (l m : List T) : grpL (l ++ m) = grpL l + grpL m := by simp [grpL]
theorem grpL_cons (t : T) (l : List T) : grpL (t :: l) = grp t + grpL l := by simp [grpL]
theorem grpL_one (t : T) : grpL [t] = grp t := by simp [grpL]
theorem numL_app : ∀ (l m : List T) (k : Nat), NumL (l ++ m) k ↔ NumL l k ∧ NumL m (k + grpL l)
 | [], m, k => by simp [NumL, grpL]
 | t :: l, m, k => by
  rw [List.cons_append, NumL, NumL, numL_app l m, grpL_cons, Nat.add_assoc, and_assoc]
theorem numL_one (t : T) (k : Nat) : NumL [t] k ↔ NumOk t k := by simp [NumL]
theorem chT_grp (c : Int) : ∀ (l : List T), grp (chT c l) = grpL l
 | [] => rfl
 | [t] => by rw [chT, grpL_one]
 | t :: u :: l => by rw [chT, grp, chT_grp c (u :: l), ← grpL_cons]
theorem chT_num (c : Int) : ∀ (l : List T) (k : Nat), NumL l k → NumOk (chT c l) k
 | [], _, _ => trivial
 | [t], k, h => h.1
 | t :: u :: l, k, h => ⟨h.1, chT_num c (u :: l) _ h.2⟩
theorem num_of_ok : ∀ (t : T) (v k : Nat) (en : Nat → Bool), Can5 v t → NumOk t k → ∃ en', num t (k, en) = some (k + grp t, en')
 | .leaf x, v, k, en, h, _ => by
  simp only [num]
  rw [if_neg (by rcases h.2.2 with e | e | e <;> omega)]
  exact ⟨en, rfl⟩
 | .two c a b, v, k, en, h, hn => by
  obtain ⟨va, vb, ha, hb⟩ : ∃ va vb, Can5 va a ∧ Can5 vb b := by
   rcases h with h | h
   ·exact ⟨_, _, h.2.2.1, h.2.2.2⟩
   ·exact ⟨_, _, h.2.2.1, h.2.2.2⟩
  obtain ⟨e1, h1⟩ := num_of_ok a va k en ha hn.1
  obtain ⟨e2, h2⟩ := num_of_ok b vb (k + grp a) e1 hb hn.2
  refine ⟨e2, ?_⟩
  simp only [num, h1, Option.bind_some, h2, grp, Nat.add_assoc]
 | .times m M t, v, k, en, h, hn => num_of_ok t 0 k en h.2.2 hn
 | .group n t, v, k, en, h, hn => by
  obtain ⟨e1, h1⟩ := num_of_ok t 2 (k + 1) en h.2 hn.2
  simp only [num]
  rw [if_pos hn.1, h1]
  refine ⟨fun i => if i = n.toNat then true else e1 i, ?_⟩
  rw [Option.map_some, grp]
  simp only
  rw [show k + 1 + grp t = k + (grp t + 1) by omega]
inductive LO : List AL → Nat → Prop where
 | nil : LO [] 0
 | snoc {l : List AL} {a : AL} : LO l a.n → NumL a.all a.n → LO (l ++ [a]) (a.n + grpL a.all + 1)
theorem LO.inv {l : List AL} {m : Nat} (h : LO l m) : ∀ {l' : List AL} {a : AL}, l = l' ++ [a] → LO l' a.n ∧ NumL a.all a.n ∧ m = a.n + grpL a.all + 1 := by
 cases h with
 | nil => intro l' a e; simp at e
 | snoc h1 h2 =>
  intro l' a e
  obtain ⟨rfl, e2⟩ := List.append_inj' e rfl
  simp only [List.cons.injEq, and_true] at e2
  subst e2
  exact ⟨h1, h2, rfl⟩
structure CInv (a : AS) : Prop where
 lo : LO a.lo a.top.n
 nt : NumL a.top.all a.top.n
 g : a.g = a.top.n + grpL a.top.all
 g9 : a.g ≤ 9
 ca : ∀ e ∈ a.lo ++ [a.top], (∀ t ∈ e.rows, Can5 1 t) ∧ (∀ t ∈ e.items, Can5 0 t)
 pl : ∀ e ∈ a.lo ++ [a.top], e.p ≤ a.p
 ia : a.ia = true → ∃ l t, a.top.items = l ++ [t] ∧ t.isAtom = true
section
variable {a b : AS}
theorem CInv.item (h : CInv a) {t : T} {n : Nat} {f : Bool} (hc : Can5 0 t) (hn : NumOk t a.g) (hg : a.g + grp t ≤ 9) (hf : f = true → t.isAtom = true) : CInv { a.item t n f with g := a.g + grp t } := by
 have hall : (a.item t n f).top.all = a.top.all ++ [t] := by simp [AS.item, AL.all]
 have h1 := h.g
 refine ⟨h.lo, ?_, ?_, hg, ?_, ?_, ?_⟩
 ·show NumL (a.item t n f).top.all a.top.n
  rw [hall, numL_app, numL_one, ← h1]
  exact ⟨h.nt, hn⟩
 ·show a.g + grp t = a.top.n + grpL (a.item t n f).top.all
  rw [hall, grpL_app, grpL_one]; omega
 ·intro e he
  rcases List.mem_append.1 he with q | q
  ·exact h.ca e (List.mem_append.2 (.inl q))
  ·rw [List.mem_singleton.1 q]
   have := h.ca a.top (by simp)
   refine ⟨this.1, fun x hx => ?_⟩
   rcases List.mem_append.1 hx with q | q
   ·exact this.2 x q
   ·rw [List.mem_singleton.1 q]; exact hc
 ·intro e he
  show e.p ≤ a.p + n
  rcases List.mem_append.1 he with q | q
  ·have := h.pl e (List.mem_append.2 (.inl q)); omega
  ·rw [List.mem_singleton.1 q]
   have := h.pl a.top (by simp)
   show a.top.p ≤ a.p + n
   omega
 ·intro e
  exact ⟨a.top.items, t, rfl, hf e⟩
theorem CInv.endA (h : CInv a) (hq : Proofs.YtdjcgjkbecncaaaGreatDoor.endA a = some b) : CInv { b with ia := false } ∧ b.top.items = [] ∧ b.top.rows ≠ [] ∧ b.lo = a.lo ∧ b.p = a.p ∧ b.top.p = a.top.p ∧ b.top.n = a.top.n ∧ b.g = a.g := by
 unfold Proofs.YtdjcgjkbecncaaaGreatDoor.endA at hq
 split at hq
 ·cases hq
 ·rename_i h0
  cases hq
  refine ⟨⟨h.lo, ?_, ?_, h.g9, ?_, ?_, fun e => by cases e⟩, rfl, by simp, rfl, rfl, rfl, rfl, rfl⟩
  ·have := h.nt
   show NumL (a.top.rows ++ [chT 4 a.top.items] ++ []) a.top.n
   rw [AL.all, numL_app] at this
   rw [List.append_nil, numL_app, numL_one]
   exact ⟨this.1, chT_num 4 _ _ this.2⟩
  ·have := h.g
   rw [AL.all, grpL_app] at this
   show a.g = a.top.n + grpL (a.top.rows ++ [chT 4 a.top.items] ++ [])
   rw [List.append_nil, grpL_app, grpL_one, chT_grp]; exact this
  ·intro e he
   rcases List.mem_append.1 he with q | q
   ·exact h.ca e (List.mem_append.2 (.inl q))
   ·rw [List.mem_singleton.1 q]
    have := h.ca a.top (by simp)
    refine ⟨fun x hx => ?_, fun x hx => by cases hx⟩
    rcases List.mem_append.1 hx with q | q
    ·exact this.1 x q
    ·rw [List.mem_singleton.1 q]; exact can_cat _ h0 this.2
  ·intro e he
   rcases List.mem_append.1 he with q | q
   ·exact h.pl e (List.mem_append.2 (.inl q))
   ·rw [List.mem_singleton.1 q]
    exact h.pl a.top (by simp)
theorem CInv.act (h : CInv a) {t : Tk5} {L : Nat} (ht : TokOk L t) (ho : actA a t = .ok b) : CInv b := by
 have hg := h.g9
 cases t with
 | it x n f =>
  cases ho
  obtain ⟨h1, h2, h3, _, h4⟩ := ht
  exact h.item (t := .leaf x) (n := n) (f := f) ⟨h1, h2, by rcases h4 with h4 | h4 <;> omega⟩ trivial hg (fun e => by
   rcases h4 with h4 | h4
   ·exact decide_eq_true h4.1
   ·rw [h4.2] at e; cases e)
 | op =>
  change openA a = .ok b at ho
  unfold openA at ho
  split at ho
  ·cases ho
  ·rename_i h9
   cases ho
   refine ⟨?_, trivial, rfl, by show a.g + 1 ≤ 9; omega, ?_, ?_, fun e => by cases e⟩
   ·show LO (a.lo ++ [a.top]) (a.g + 1)
    rw [h.g]
    exact .snoc h.lo h.nt
   ·intro e he
    rcases List.mem_append.1 he with q | q
    ·exact h.ca e q
    ·rw [List.mem_singleton.1 q]
     exact ⟨fun x hx => (by cases hx), fun x hx => by cases hx⟩
   ·intro e he
    show e.p ≤ a.p + 1
    rcases List.mem_append.1 he with q | q
    ·have := h.pl e q; omega
    ·rw [List.mem_singleton.1 q]
     show a.p ≤ a.p + 1
     omega
 | sh =>
  change shutA a = .ok b at ho
  unfold shutA at ho
  rcases List.eq_nil_or_concat a.lo with hl | ⟨lo', ta, hl⟩
  ·rw [hl] at ho; cases ho
  ·rw [List.concat_eq_append] at hl
   rw [hl] at ho
   simp only [List.getLast?_append, List.getLast?_singleton, Option.some_or, Option.or_some] at ho
   cases hq : Proofs.YtdjcgjkbecncaaaGreatDoor.endA a with
   | none => rw [hq] at ho; cases ho
   | some q =>
    rw [hq] at ho
    obtain ⟨hc, hi, hr, hlo, hp, htp, htn, hgg⟩ := h.endA hq
    cases ho
    obtain ⟨l1, l2, l3⟩ := h.lo.inv hl
    have hql : q.lo.dropLast = lo' := by rw [hlo, hl, List.dropLast_concat]
    have hall : q.top.all = q.top.rows := by rw [AL.all, hi, List.append_nil]
    have hnt : NumL q.top.all q.top.n := hc.nt
    rw [hall] at hnt
    have hqg : q.g = q.top.n + grpL q.top.all := hc.g
    rw [hall] at hqg
    have hqn : q.top.n = ta.n + grpL ta.all + 1 := by rw [htn, l3]
    have hgr : grp (.group (q.top.n : Int) (chT 5 q.top.rows)) = grpL q.top.rows + 1 := by rw [grp, chT_grp]
    have hca := fun (e : AL) he => h.ca e he
    rw [hl] at hca
    have hpl := fun (e : AL) he => h.pl e he
    rw [hl] at hpl
    have base : CInv { q with lo := lo', top := ta, g := ta.n + grpL ta.all, ia := false } := by
     refine ⟨l1, l2, rfl, by show ta.n + grpL ta.all ≤ 9; omega, fun e he => hca e ?_, fun e he => ?_, fun e => by cases e⟩
     ·rw [List.append_assoc]
      rcases List.mem_append.1 he with q | q
      ·exact List.mem_append.2 (.inl q)
      ·exact List.mem_append.2 (.inr (List.mem_append.2 (.inl q)))
     ·have := hpl e (by
       rw [List.append_assoc]
       rcases List.mem_append.1 he with q | q
       ·exact List.mem_append.2 (.inl q)
       ·exact List.mem_append.2 (.inr (List.mem_append.2 (.inl q))))
      show e.p ≤ q.p
      omega
    have hcr : ∀ t ∈ q.top.rows, Can5 1 t := (hc.ca q.top (by simp)).1
    have := base.item (t := .group (q.top.n : Int) (chT 5 q.top.rows)) (n := 1) (f := true) ⟨by unfold isNum; rw [decide_eq_true_iff]; omega, can_alt _ hr hcr⟩
     ⟨by show (q.top.n : Int) = ((ta.n + grpL ta.all : Nat) : Int) + 1; omega, chT_num 5 _ _ (by show NumL q.top.rows (ta.n + grpL ta.all + 1); rw [← hqn]; exact hnt)⟩ (by rw [hgr]; show ta.n + grpL ta.all + _ ≤ 9; omega) (fun _ => rfl)
    rw [hql]
    have e : ta.n + grpL ta.all + grp (.group (q.top.n : Int) (chT 5 q.top.rows)) = q.g := by rw [hgr]; omega
    have e2 : (AS.item { q with lo := lo', top := ta, g := ta.n + grpL ta.all, ia := false } (.group (q.top.n : Int) (chT 5 q.top.rows)) 1 true) = { (AS.item { q with lo := lo', top := ta } (.group (q.top.n : Int) (chT 5 q.top.rows)) 1 true) with g := ta.n + grpL ta.all } := rfl
    rw [e2] at this
    simp only at this
    rw [e] at this
    exact this
 | ba =>
  change barA a = .ok b at ho
  unfold barA at ho
  cases hq : Proofs.YtdjcgjkbecncaaaGreatDoor.endA a with
  | none => rw [hq] at ho; cases ho
  | some q =>
   rw [hq] at ho
   obtain ⟨hc, _⟩ := h.endA hq
   cases ho
   exact ⟨hc.lo, hc.nt, hc.g, hc.g9, hc.ca, fun e he => Nat.le_succ_of_le (hc.pl e he), fun e => by cases e⟩
 | tm n m M =>
  change timesA a n m M = .ok b at ho
  unfold timesA at ho
  split at ho
  ·rename_i hia
   obtain ⟨is, t, hit, hat⟩ := h.ia hia
   have hlast : a.top.items.getLastD (.leaf (kindNd 0)) = t := by rw [hit, List.getLastD_eq_getLast?]; simp
   have hdrop : a.top.items.dropLast = is := by rw [hit, List.dropLast_concat]
   rw [hlast, hdrop] at ho
   cases ho
   have hnt := h.nt
   have hgg := h.g
   rw [AL.all, hit, numL_app, numL_app, numL_one] at hnt
   rw [AL.all, hit, grpL_app, grpL_app, grpL_one] at hgg
   refine ⟨h.lo, ?_, ?_, hg, ?_, ?_, fun e => by cases e⟩
   ·show NumL (a.top.rows ++ (is ++ [T.times m M t])) a.top.n
    rw [numL_app, numL_app, numL_one]
    exact hnt
   ·show a.g = a.top.n + grpL (a.top.rows ++ (is ++ [T.times m M t]))
    rw [grpL_app, grpL_app, grpL_one]
    exact hgg
   ·intro e he
    rcases List.mem_append.1 he with q | q
    ·exact h.ca e (List.mem_append.2 (.inl q))
    ·rw [List.mem_singleton.1 q]
     have := h.ca a.top (by simp)
     rw [hit] at this
     refine ⟨this.1, fun x hx => ?_⟩
     rcases List.mem_append.1 hx with q | q
     ·exact this.2 x (List.mem_append.2 (.inl q))
     ·rw [List.mem_singleton.1 q]; exact ⟨ht.1, hat, this.2 t (by simp)⟩
   ·intro e he
    show e.p ≤ a.p + n
    rcases List.mem_append.1 he with q | q
    ·have := h.pl e (List.mem_append.2 (.inl q)); omega
    ·rw [List.mem_singleton.1 q]
     have := h.pl a.top (by simp)
     show a.top.p ≤ a.p + n
     omega
  ·cases ho
 | er e => cases ho
theorem CInv.fin (h : CInv a) {s : List UInt8} {t : T} (ho : finA s a = .ok t) : Can5 2 t ∧ NumOk t 0 ∧ grp t ≤ 9 := by
 unfold finA at ho
 cases hq : Proofs.YtdjcgjkbecncaaaGreatDoor.endA a with
 | none => rw [hq] at ho; cases ho
 | some q =>
  rw [hq] at ho
  obtain ⟨hc, hi, hr, hlo, _⟩ := h.endA hq
  simp only at ho
  split at ho
  ·cases ho
  ·rename_i h0
   have h0 : q.lo = [] := Decidable.not_not.1 h0
   cases ho
   have hlo' : LO [] q.top.n := by have : LO q.lo q.top.n := hc.lo; rwa [h0] at this
   have hn0 : q.top.n = 0 := by
    cases hz : q.top.n with
    | zero => rfl
    | succ k =>
     rw [hz] at hlo'
     generalize hl : ([] : List AL) = l at hlo'
     generalize hk : k + 1 = m at hlo'
     cases hlo' with
     | nil => omega
     | snoc _ _ => simp at hl
   have hnt : NumL q.top.all q.top.n := hc.nt
   have hg : q.g = q.top.n + grpL q.top.all := hc.g
   have hg9 : q.g ≤ 9 := hc.g9
   rw [AL.all, hi, List.append_nil, hn0] at hnt hg
   exact ⟨can_alt _ hr (hc.ca q.top (by simp)).1, chT_num 5 _ _ hnt, by rw [chT_grp]; omega⟩
theorem startA_inv : CInv startA := ⟨.nil, trivial, rfl, by decide, fun e he => by
 rw [List.mem_singleton.1 he]
 exact ⟨fun x hx => (by cases hx), fun x hx => by cases hx⟩, fun e he => by
 rw [List.mem_singleton.1 he]; exact Nat.le_refl _, fun e => by cases e⟩
theorem loop_can (s : List UInt8) : ∀ (fu : Nat) (a : AS) (t : T), CInv a → loopA s fu a = .ok t → Can5 2 t ∧ NumOk t 0 ∧ grp t ≤ 9
 | 0, a, t, h, ho => h.fin ho
 | fu + 1, a, t, h, ho => by
  unfold loopA at ho
  cases hc : s[a.p]? with
  | none => rw [hc] at ho; exact h.fin ho
  | some c =>
   rw [hc] at ho
   simp only at ho
   cases hq : actA a (tokE s a.p c) with
   | error e => rw [hq] at ho; cases ho
   | ok a' => rw [hq] at ho; exact loop_can s fu a' t (h.act (tok_ok s a.p c hc) hq) ho
theorem actA_err {t : Tk5} {L : Nat} (ht : TokOk L t) {e : Int} (ho : actA a t = .error e) : 40 ≤ e ∧ e ≤ 44 := by
 cases t with
 | it x n f => cases ho
 | op =>
  change openA a = .error e at ho
  unfold openA at ho
  split at ho
  ·cases ho; decide
  ·cases ho
 | sh =>
  change shutA a = .error e at ho
  unfold shutA at ho
  split at ho
  ·cases ho; decide
  ·split at ho
   ·cases ho; decide
   ·cases ho
 | ba =>
  change barA a = .error e at ho
  unfold barA at ho
  split at ho
  ·cases ho; decide
  ·cases ho
 | tm n m M =>
  change timesA a n m M = .error e at ho
  unfold timesA at ho
  split at ho
  ·cases ho
  ·cases ho; decide
 | er e' => cases ho; exact ht
theorem actA_p {t : Tk5} {L : Nat} (ht : TokOk L t) (hL : 1 ≤ L) (ho : actA a t = .ok b) : a.p < b.p ∧ b.p ≤ a.p + L := by
 cases t with
 | it x n f =>
  cases ho
  have h1 := ht.2.2.1
  have h2 := ht.2.2.2.1
  show a.p < a.p + n ∧ a.p + n ≤ a.p + L
  omega
 | op =>
  change openA a = .ok b at ho
  unfold openA at ho
  split at ho
  ·cases ho
  ·cases ho
   show a.p < a.p + 1 ∧ a.p + 1 ≤ a.p + L
   omega
 | sh =>
  change shutA a = .ok b at ho
  unfold shutA at ho
  split at ho
  ·cases ho
  ·split at ho
   ·cases ho
   ·rename_i q hq
    unfold Proofs.YtdjcgjkbecncaaaGreatDoor.endA at hq
    split at hq
    ·cases hq
    ·cases hq
     cases ho
     show a.p < a.p + 1 ∧ a.p + 1 ≤ a.p + L
     omega
 | ba =>
  change barA a = .ok b at ho
  unfold barA at ho
  split at ho
  ·cases ho
  ·rename_i q hq
   unfold Proofs.YtdjcgjkbecncaaaGreatDoor.endA at hq
   split at hq
   ·cases hq
   ·cases hq
    cases ho
    show a.p < a.p + 1 ∧ a.p + 1 ≤ a.p + L
    omega
 | tm n m M =>
  change timesA a n m M = .ok b at ho
  unfold timesA at ho
  have h1 := ht.2.1
  have h2 := ht.2.2
  split at ho
  ·cases ho
   show a.p < a.p + n ∧ a.p + n ≤ a.p + L
   omega
  ·cases ho
 | er e => cases ho
theorem CInv.ferr (h : CInv a) {s : List UInt8} {z : Int} {k : Nat} (hp : a.p ≤ s.length) (ho : finA s a = .error (z, k)) : 40 ≤ z ∧ z ≤ 44 ∧ k ≤ s.length := by
 unfold finA at ho
 cases hq : Proofs.YtdjcgjkbecncaaaGreatDoor.endA a with
 | none => rw [hq] at ho; cases ho; exact ⟨by decide, by decide, Nat.le_refl _⟩
 | some q =>
  rw [hq] at ho
  obtain ⟨hc, hi, hr, hlo, hp2, htp, _⟩ := h.endA hq
  simp only at ho
  split at ho
  ·cases ho
   have := h.pl a.top (by simp)
   refine ⟨by decide, by decide, ?_⟩
   rw [htp]; omega
  ·cases ho
theorem loop_err (s : List UInt8) : ∀ (fu : Nat) (a : AS) (z : Int) (k : Nat), CInv a → a.p ≤ s.length → loopA s fu a = .error (z, k) → 40 ≤ z ∧ z ≤ 44 ∧ k ≤ s.length
 | 0, a, z, k, h, hp, ho => h.ferr hp ho
 | fu + 1, a, z, k, h, hp, ho => by
  unfold loopA at ho
  cases hc : s[a.p]? with
  | none => rw [hc] at ho; exact h.ferr hp ho
  | some c =>
   rw [hc] at ho
   simp only at ho
   have hlt := (List.getElem?_eq_some_iff.1 hc).1
   have ht := tok_ok s a.p c hc
   cases hq : actA a (tokE s a.p c) with
   | error e =>
    rw [hq] at ho
    cases ho
    have := actA_err ht hq
    omega
   | ok a' =>
    rw [hq] at ho
    have := actA_p ht (by omega) hq
    exact loop_err s fu a' z k (h.act ht hq) (by omega) ho
end
theorem tree_can {s : List UInt8} {t : T} (h : treeP s = .ok t) : Can5 2 t ∧ NumOk t 0 ∧ grp t ≤ 9 := loop_can s _ _ _ startA_inv h
theorem tree_err {s : List UInt8} {z : Int} {k : Nat} (h : treeP s = .error (z, k)) : 40 ≤ z ∧ z ≤ 44 ∧ k ≤ s.length := loop_err s _ _ _ _ startA_inv (Nat.zero_le _) h
end Go.Proofs.YtdjcgjkbecncaaaGreatDoor
