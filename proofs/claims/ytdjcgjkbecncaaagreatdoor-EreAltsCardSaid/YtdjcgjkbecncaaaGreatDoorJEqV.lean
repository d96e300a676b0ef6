/- ere: what is read goes on to be read where more follows. Of no program. -/
import Derived.Test.YtdjcgjkbecncaaaGreatDoorJEqJ
set_option linter.unusedVariables false
set_option linter.unusedSimpArgs false
set_option maxRecDepth 100000
set_option maxHeartbeats 40000000
namespace Go.Proofs.YtdjcgjkbecncaaaGreatDoor
open Go.RowKit Go.Lib
section
variable {u y : List UInt8}
theorem ah_ext {i : Nat} {h : List UInt8} (hl : i + h.length ≤ u.length) : ah (u ++ y) i h = ah u i h := by
 unfold ah
 rw [List.drop_append_of_le_length (by omega)]
 have e : (u.drop i ++ y).take h.length = (u.drop i).take h.length := List.take_append_of_le_length (by rw [List.length_drop]; omega)
 rw [Bool.eq_iff_iff, List.isPrefixOf_iff_prefix, List.isPrefixOf_iff_prefix, List.prefix_iff_eq_take, List.prefix_iff_eq_take, e]
theorem ah_yes {i : Nat} {h : List UInt8} (he : ah u i h = true) : ah (u ++ y) i h = true := by
 by_cases h0 : h = []
 ·subst h0; unfold ah; simp
 ·rcases ah_le he with q | q
  ·rw [ah_ext q]; exact he
  ·exact absurd q h0
theorem get_ext {i : Nat} (hl : i < u.length) : (u ++ y)[i]? = u[i]? := List.getElem?_append_left hl
theorem clsd_ext {i : Nat} {e : List UInt8} {p : UInt8 × Nat} (h : clsdP u i e = some p) : clsdP (u ++ y) i e = some p := by
 unfold clsdP at h ⊢
 cases hb : u[i]? with
 | none => rw [hb] at h; cases h
 | some b =>
  rw [hb] at h
  simp only at h
  split at h
  ·rename_i ha
   rw [get_ext (List.getElem?_eq_some_iff.1 hb).1, hb]
   simp only
   rw [if_pos (ah_yes ha)]
   exact h
  ·cases h
theorem clsd_le {i : Nat} {e : List UInt8} {p : UInt8 × Nat} (h : clsdP u i e = some p) : i < p.2 := by
 unfold clsdP at h
 split at h
 ·cases h
 ·split at h
  ·cases h; show i < i + 1 + e.length; omega
  ·cases h
theorem one_lt {i : Nat} {p : UInt8 × Nat} (h : oneP u i = some p) : i < p.2 := by
 unfold oneP at h
 split at h
 ·have := clsd_le h; omega
 ·split at h
  ·cases h; show i < i + 2; omega
  ·split at h
   ·cases h
   ·split at h
    ·cases h
    ·cases h; show i < i + 1; omega
theorem one_ext {i : Nat} {p : UInt8 × Nat} (h : oneP u i = some p) (hl : i + 2 ≤ u.length) : oneP (u ++ y) i = some p := by
 unfold oneP at h ⊢
 have e1 : ∀ a b : UInt8, ah (u ++ y) i [a, b] = ah u i [a, b] := fun a b => ah_ext (by simpa using hl)
 rw [e1, e1, e1, e1, get_ext (by omega)]
 split at h
 ·rename_i q
  rw [if_pos q]
  exact clsd_ext h
 ·rename_i q
  rw [if_neg q]
  exact h
theorem tail_ext {i : Nat} {p : (Nat → Bool) × Nat} (h : tailP u i = some p) (hl : p.2 < u.length) : tailP (u ++ y) i = some p := by
 unfold tailP at h ⊢
 cases ho : oneP u i with
 | none => rw [ho] at h; cases h
 | some q =>
  obtain ⟨a, k⟩ := q
  rw [ho] at h
  simp only at h
  have hik := one_lt ho
  simp only at hik
  by_cases hd : ah u k [45] = true
  ·by_cases hc : ah u k [45, 93] = true
   ·rw [hc] at h
    simp only [Bool.true_or, if_true] at h
    cases h
    simp only at hl
    rw [one_ext ho (by omega)]
    simp only
    rw [ah_yes hc]
    rfl
   ·have hc' : ah u k [45, 93] = false := by simpa using hc
    rw [hc', hd] at h
    simp only [Bool.not_true, Bool.or_self, Bool.false_eq_true, if_false] at h
    cases ho2 : oneP u (k + 1) with
    | none => rw [ho2] at h; cases h
    | some r =>
     obtain ⟨z, m⟩ := r
     rw [ho2] at h
     simp only at h
     have hkm := one_lt ho2
     simp only at hkm
     have hm : p.2 = m := by
      split at h
      ·cases h
      ·cases h; rfl
     rw [one_ext ho (by omega)]
     simp only
     have e1 : ah (u ++ y) k [45, 93] = false := by rw [ah_ext (by simp only [List.length_cons, List.length_nil]; omega)]; exact hc'
     rw [e1, ah_yes hd]
     simp only [Bool.not_true, Bool.or_self, Bool.false_eq_true, if_false]
     rw [one_ext ho2 (by omega)]
     exact h
  ·have hd' : ah u k [45] = false := by simpa using hd
   rw [hd'] at h
   simp only [Bool.not_false, Bool.or_true, if_true] at h
   cases h
   simp only at hl
   rw [one_ext ho (by omega)]
   simp only
   have e1 : ah (u ++ y) k [45] = false := by rw [ah_ext (by simp only [List.length_cons, List.length_nil]; omega)]; exact hd'
   rw [e1]
   simp
theorem index_ext {sep : List UInt8} {i : Nat} (h : index u sep = (i : Int)) : index (u ++ y) sep = (i : Int) := by
 have hr := index_room u sep (by omega)
 rcases index_spec u sep with ⟨h1, _⟩ | ⟨j, h1, h2, h3, h4⟩
 ·omega
 ·obtain rfl : j = i := by omega
  refine index_first (by rw [List.length_append]; omega) ?_ (fun k hk => ?_)
  ·have : ah u j sep = true := h3
   exact ah_yes this
  ·have : ah u k sep = false := h4 k hk
   exact (ah_ext (y := y) (by omega)).trans this
theorem cut_ext {sep : List UInt8} (h : (Lib.cut u sep).2.2 = true) : (Lib.cut (u ++ y) sep).1 = (Lib.cut u sep).1 ∧ (Lib.cut (u ++ y) sep).2.2 = true := by
 unfold Lib.cut at h ⊢
 split at h
 ·rename_i h0
  obtain ⟨i, hi⟩ : ∃ i : Nat, index u sep = i := ⟨(index u sep).toNat, by omega⟩
  have hr := index_room u sep h0
  have he := index_ext (y := y) hi
  rw [hi] at hr
  rw [he, hi]
  simp only [Int.natCast_nonneg, if_true, Int.toNat_natCast, and_true]
  exact List.take_append_of_le_length (by omega)
 ·cases h
theorem clas_ext {i : Nat} {p : (Nat → Bool) × Nat} (h : clasP u i = some p) (hi : i ≤ u.length) : clasP (u ++ y) i = some p := by
 unfold clasP at h ⊢
 rw [List.drop_append_of_le_length hi]
 simp only at h ⊢
 cases hc : (Lib.cut (u.drop i) [58, 93]).2.2 with
 | false => rw [hc] at h; simp at h
 | true =>
  obtain ⟨e1, e2⟩ := cut_ext (y := y) hc
  simp only [e1, e2]
  simp only [hc] at h
  exact h
theorem part_lt {i : Nat} {f : Bool} {p : (Nat → Bool) × Nat} (h : partP u i f = some p) : i < p.2 := by
 unfold partP at h
 split at h
 ·unfold clasP at h
  simp only at h
  split at h
  ·cases h
  ·cases h
   show i < i + 2 + (_ + 2)
   omega
 ·split at h
  ·simp only [Option.map_eq_some_iff] at h
   obtain ⟨q, hq, rfl⟩ := h
   have := clsd_le hq
   show i < q.2
   omega
  ·split at h
   ·cases h
   ·unfold tailP at h
    split at h
    ·cases h
    ·rename_i a k ho
     have := one_lt ho
     simp only at this
     split at h
     ·cases h; exact this
     ·split at h
      ·cases h
      ·rename_i z m ho2
       have := one_lt ho2
       simp only at this
       split at h
       ·cases h
       ·cases h; show i < m; omega
theorem part_ext {i : Nat} {f : Bool} {p : (Nat → Bool) × Nat} (h : partP u i f = some p) (hl : p.2 < u.length) : partP (u ++ y) i f = some p := by
 have hlt := part_lt h
 have e1 : ∀ a b : UInt8, ah (u ++ y) i [a, b] = ah u i [a, b] := fun a b => ah_ext (by simp only [List.length_cons, List.length_nil]; omega)
 have e0 : ∀ a : UInt8, ah (u ++ y) i [a] = ah u i [a] := fun a => ah_ext (by simp only [List.length_cons, List.length_nil]; omega)
 unfold partP at h ⊢
 rw [e1, e1, e1, e0]
 split at h
 ·rename_i q
  rw [if_pos q]
  exact clas_ext h (by omega)
 ·rename_i q
  rw [if_neg q]
  split at h
  ·rename_i q2
   rw [if_pos q2]
   simp only [Option.map_eq_some_iff] at h ⊢
   obtain ⟨r, hr, rfl⟩ := h
   exact ⟨r, clsd_ext hr, rfl⟩
  ·rename_i q2
   rw [if_neg q2]
   split at h
   ·cases h
   ·rename_i q3
    rw [if_neg q3]
    exact tail_ext h hl
theorem rest_lt : ∀ (f i : Nat) (F : Nat → Bool) (p : (Nat → Bool) × Nat), restP u f i F = some p → i < p.2 ∧ p.2 ≤ u.length
 | 0, i, F, p, h => by cases h
 | f + 1, i, F, p, h => by
  rw [restP] at h
  split at h
  ·rename_i q
   cases h
   rcases ah_le q with r | r
   ·simp only [List.length_cons, List.length_nil] at r
    exact ⟨Nat.lt_succ_self i, r⟩
   ·cases r
  ·split at h
   ·cases h
   ·rename_i G k hk
    have h1 := part_lt hk
    have h2 := rest_lt f k _ p h
    simp only at h1
    exact ⟨by omega, h2.2⟩
theorem rest_ext : ∀ (f i : Nat) (F : Nat → Bool) (p : (Nat → Bool) × Nat), restP u f i F = some p → ∀ g, f ≤ g → restP (u ++ y) g i F = some p
 | 0, i, F, p, h, g, hg => by cases h
 | f + 1, i, F, p, h, g, hg => by
  obtain ⟨g, rfl⟩ : ∃ k, g = k + 1 := ⟨g - 1, by omega⟩
  have hb := rest_lt (f + 1) i F p h
  rw [restP] at h ⊢
  rw [ah_ext (u := u) (by simp only [List.length_cons, List.length_nil]; omega)]
  split at h
  ·rename_i q
   rw [if_pos q]; exact h
  ·rename_i q
   rw [if_neg q]
   cases hk : partP u i false with
   | none => rw [hk] at h; cases h
   | some r =>
    obtain ⟨G, k⟩ := r
    rw [hk] at h
    simp only at h
    have h2 := rest_lt f k _ p h
    rw [part_ext hk (by show k < u.length; omega)]
    exact rest_ext f k _ p h g (by omega)
theorem brk_ext {p : (Nat → Bool) × Nat} (h : brkP u = some p) : brkP (u ++ y) = some p := by
 unfold brkP at h ⊢
 by_cases h0 : ah u 0 [91] = true
 ·have hl : 1 ≤ u.length := by
   rcases ah_le h0 with r | r
   ·simpa using r
   ·cases r
  rw [h0] at h
  rw [ah_yes h0]
  simp only [Bool.not_true, Bool.false_eq_true, if_false] at h ⊢
  cases hp : partP u (sk u 1 [94]) true with
  | none => rw [hp] at h; cases h
  | some q =>
   obtain ⟨G, k⟩ := q
   rw [hp] at h
   simp only at h
   cases hr : restP u (u.length + 1) k G with
   | none => rw [hr] at h; cases h
   | some r =>
    obtain ⟨F, m⟩ := r
    rw [hr] at h
    simp only at h
    have h1 := part_lt hp
    have h2 := rest_lt _ _ _ _ hr
    simp only at h1 h2
    have hsk : 1 ≤ sk u 1 [94] := by unfold sk; split <;> omega
    have e1 : ah (u ++ y) 1 [94] = ah u 1 [94] := ah_ext (by simp only [List.length_cons, List.length_nil]; omega)
    have e2 : sk (u ++ y) 1 [94] = sk u 1 [94] := by unfold sk; rw [e1]
    rw [e2, part_ext hp (by show k < u.length; omega)]
    simp only
    rw [rest_ext _ _ _ _ hr _ (by rw [List.length_append]; omega), e1]
    exact h
 ·have : ah u 0 [91] = false := by simpa using h0
  rw [this] at h
  cases h
theorem tw125 (z : List UInt8) : ∀ a : List UInt8, (a ++ 125 :: z).takeWhile (· != 125) = a.takeWhile (· != 125)
 | [] => by simp
 | c :: a => by
  simp only [List.cons_append, List.takeWhile_cons]
  split
  ·rw [tw125 z a]
  ·rfl
theorem num_ext {q : Nat × Int × Int} (h : numE u = some q) : numE (u ++ y) = some q := by
 rw [numE_eq] at h ⊢
 have ha : u.any (· == 125) = true := by
  cases hc : u.any (· == 125) with
  | true => rfl
  | false =>
   rw [hc] at h
   split at h <;> cases h
 have ht : (u ++ y).takeWhile (· != 125) = u.takeWhile (· != 125) := by
  obtain ⟨x, hx, hx2⟩ := List.any_eq_true.1 ha
  have hx2 : x = 125 := by simpa using hx2
  subst hx2
  obtain ⟨a, b, rfl⟩ := List.append_of_mem hx
  rw [List.append_assoc, List.cons_append]
  rw [tw125, tw125]
 rw [ht, List.any_append, ha]
 rw [ha] at h
 exact h
end
theorem tok_drop {s v : List UInt8} {p q : Nat} (c : UInt8) (h : s.drop p = v.drop q) : tokE s p c = tokE v q c := by
 have h1 : s[p + 1]? = v[q + 1]? := by
  have : (s.drop p)[1]? = (v.drop q)[1]? := by rw [h]
  simpa using this
 have h2 : s.drop (p + 1) = v.drop (q + 1) := by rw [← List.drop_drop, h, List.drop_drop]
 unfold tokE escK
 rw [h, h1, h2]
def Tk5.isEr : Tk5 → Bool
 | .er _ => true
 | _ => false
theorem tok_ext {s y : List UInt8} {p : Nat} {c : UInt8} (hc : s[p]? = some c) (h : (tokE s p c).isEr = false) : tokE (s ++ y) p c = tokE s p c := by
 have hp := (List.getElem?_eq_some_iff.1 hc).1
 unfold tokE at h ⊢
 by_cases c1 : c = 94
 ·rw [if_pos c1, if_pos c1]
 rw [if_neg c1] at h
 rw [if_neg c1, if_neg c1]
 by_cases c2 : c = 36
 ·rw [if_pos c2, if_pos c2]
 rw [if_neg c2] at h
 rw [if_neg c2, if_neg c2]
 by_cases c3 : c = 46
 ·rw [if_pos c3, if_pos c3]
 rw [if_neg c3] at h
 rw [if_neg c3, if_neg c3]
 by_cases c4 : c = 91
 ·rw [if_pos c4] at h
  rw [if_pos c4, if_pos c4, List.drop_append_of_le_length (by omega)]
  cases hq : brkP (s.drop p) with
  | none => rw [hq] at h; cases h
  | some a => rw [brk_ext hq]
 rw [if_neg c4] at h
 rw [if_neg c4, if_neg c4]
 by_cases c5 : c = 40
 ·rw [if_pos c5, if_pos c5]
 rw [if_neg c5] at h
 rw [if_neg c5, if_neg c5]
 by_cases c6 : c = 41
 ·rw [if_pos c6, if_pos c6]
 rw [if_neg c6] at h
 rw [if_neg c6, if_neg c6]
 by_cases c7 : c = 124
 ·rw [if_pos c7, if_pos c7]
 rw [if_neg c7] at h
 rw [if_neg c7, if_neg c7]
 by_cases c8 : c = 92
 ·rw [if_pos c8] at h
  rw [if_pos c8, if_pos c8]
  unfold escK at h ⊢
  cases hd : s[p + 1]? with
  | none => rw [hd] at h; cases h
  | some d => rw [get_ext (List.getElem?_eq_some_iff.1 hd).1, hd]
 rw [if_neg c8] at h
 rw [if_neg c8, if_neg c8]
 by_cases c9 : c = 42
 ·rw [if_pos c9, if_pos c9]
 rw [if_neg c9] at h
 rw [if_neg c9, if_neg c9]
 by_cases c10 : c = 43
 ·rw [if_pos c10, if_pos c10]
 rw [if_neg c10] at h
 rw [if_neg c10, if_neg c10]
 by_cases c11 : c = 63
 ·rw [if_pos c11, if_pos c11]
 rw [if_neg c11] at h
 rw [if_neg c11, if_neg c11]
 by_cases c12 : c = 123
 ·rw [if_pos c12] at h
  rw [if_pos c12, if_pos c12, List.drop_append_of_le_length (by omega)]
  cases hq : numE (s.drop (p + 1)) with
  | none => rw [hq] at h; cases h
  | some a => rw [num_ext hq]
 rw [if_neg c12, if_neg c12]
theorem St.ext {s y : List UInt8} {a b : AS} (h : St s a b) : St (s ++ y) a b := by
 obtain ⟨c, hc, ha⟩ := h
 have hp := (List.getElem?_eq_some_iff.1 hc).1
 refine ⟨c, by rw [get_ext hp]; exact hc, ?_⟩
 have her : (tokE s a.p c).isEr = false := by
  cases ht : tokE s a.p c with
  | er e => rw [ht] at ha; cases ha
  | _ => rfl
 rw [tok_ext hc her]
 exact ha
theorem Sts.ext {s y : List UInt8} {a b : AS} (h : Sts s a b) : Sts (s ++ y) a b := by
 induction h with
 | refl a => exact .refl a
 | step h1 _ ih => exact .step h1.ext ih
theorem St.drop {s v : List UInt8} {a b : AS} {P : Nat} (h : St s a b) (hd : ∀ p, s.drop p = v.drop (p + P)) (a' b' : AS) (hp : a'.p = a.p + P) (hact : ∀ t L, TokOk L t → actA a t = .ok b → actA a' t = .ok b') : St v a' b' := by
 obtain ⟨c, hc, ha⟩ := h
 have hdp := hd a.p
 refine ⟨c, ?_, ?_⟩
 ·have : (v.drop (a.p + P))[0]? = some c := by rw [← hdp]; simpa using hc
  rw [hp]
  simpa using this
 ·rw [hp, ← tok_drop c hdp]
  exact hact _ _ (tok_ok s a.p c hc) ha
theorem loop_sts {s : List UInt8} : ∀ (fu : Nat) (a : AS) (t : T), a.p ≤ s.length → s.length < fu + a.p → loopA s fu a = .ok t → ∃ b, Sts s a b ∧ b.p = s.length ∧ finA s b = .ok t
 | 0, a, t, hp, hf, h => by omega
 | fu + 1, a, t, hp, hf, h => by
  unfold loopA at h
  cases hc : s[a.p]? with
  | none =>
   rw [hc] at h
   have := List.getElem?_eq_none_iff.1 hc
   exact ⟨a, .refl a, by omega, h⟩
  | some c =>
   rw [hc] at h
   simp only at h
   have hlt := (List.getElem?_eq_some_iff.1 hc).1
   cases hq : actA a (tokE s a.p c) with
   | error e => rw [hq] at h; cases h
   | ok a' =>
    rw [hq] at h
    have h1 := actA_p (tok_ok s a.p c hc) (by omega) hq
    obtain ⟨b, k1, k2, k3⟩ := loop_sts fu a' t (by omega) (by omega) h
    exact ⟨b, .step ⟨c, hc, hq⟩ k1, k2, k3⟩
theorem tree_sts {s : List UInt8} {t : T} (h : treeP s = .ok t) : ∃ b, Sts s startA b ∧ b.p = s.length ∧ finA s b = .ok t := loop_sts _ _ _ (Nat.zero_le _) (by show s.length < s.length + 1 + 0; omega) h
end Go.Proofs.YtdjcgjkbecncaaaGreatDoor
namespace Go.Proofs.YtdjcgjkbecncaaaGreatDoor
open Go.RowKit Go.Lib
def T.up (G : Nat) : T → T
 | .leaf x => .leaf x
 | .two k a b => .two k (a.up G) (b.up G)
 | .times m M t => .times m M (t.up G)
 | .group n t => .group (n + G) (t.up G)
theorem up_size (G : Nat) : ∀ t : T, (t.up G).size = t.size
 | .leaf x => rfl
 | .two k a b => by simp only [T.up, T.size, up_size G a, up_size G b]
 | .times m M t => by simp only [T.up, T.size, up_size G t]
 | .group n t => by simp only [T.up, T.size, up_size G t]
theorem chT_up (k : Int) (G : Nat) : ∀ l : List T, chT k (l.map (T.up G)) = (chT k l).up G
 | [] => rfl
 | [t] => rfl
 | t :: u :: l => by
  have := chT_up k G (u :: l)
  simp only [List.map_cons, chT, T.up] at this ⊢
  rw [this]
section
variable (R : List T) (P G : Nat)
def AL.up (first : Bool) (a : AL) : AL := ⟨if first then a.p else a.p + P, if first then a.n else a.n + G, (if first then R else []) ++ a.rows.map (T.up G), a.items.map (T.up G)⟩
def upLo : List AL → List AL
 | [] => []
 | a :: l => a.up R P G true :: l.map (AL.up R P G false)
def AS.up (a : AS) : AS := ⟨a.p + P, upLo R P G a.lo, a.top.up R P G a.lo.isEmpty, a.g + G, a.ia⟩
theorem upLo_snoc (l : List AL) (a : AL) : upLo R P G (l ++ [a]) = upLo R P G l ++ [a.up R P G l.isEmpty] := by
 cases l with
 | nil => rfl
 | cons b l => simp [upLo]
variable {R P G} {a b : AS}
theorem endA_up (h : endA a = some b) : endA (a.up R P G) = some (b.up R P G) := by
 unfold endA at h ⊢
 split at h
 ·cases h
 ·rename_i h0
  cases h
  rw [if_neg (by simpa [AS.up, AL.up] using h0)]
  simp only [AS.up, AL.up, List.map_append, List.map_cons, List.map_nil, chT_up, List.append_assoc]
theorem endA_lo (h : endA a = some b) : b.lo = a.lo ∧ b.g = a.g := by
 unfold endA at h
 split at h
 ·cases h
 ·cases h; exact ⟨rfl, rfl⟩
theorem actA_up {t : Tk5} (h : actA a t = .ok b) (hg : b.g + G ≤ 9) (hia : a.ia = true → a.top.items ≠ []) : actA (a.up R P G) t = .ok (b.up R P G) := by
 cases t with
 | it x n f =>
  cases h
  show Except.ok ((a.up R P G).item (.leaf x) n f) = _
  simp only [AS.item, AS.up, AL.up, List.map_append, List.map_cons, List.map_nil, T.up]
  congr 2
  omega
 | op =>
  change openA a = .ok b at h
  show openA (a.up R P G) = _
  unfold openA at h ⊢
  split at h
  ·cases h
  ·cases h
   simp only at hg
   rw [if_neg (show ¬ ((AS.up R P G a).g = 9) from fun e => by have e : a.g + G = 9 := e; omega)]
   simp only [AS.up]
   rw [upLo_snoc]
   have e : (a.lo ++ [a.top]).isEmpty = false := by simp
   rw [e]
   simp only [AL.up, List.map_nil, Bool.false_eq_true, if_false, List.append_nil]
   congr 2
   ·omega
   ·congr 1; omega
   ·omega
 | sh =>
  change shutA a = .ok b at h
  show shutA (a.up R P G) = _
  unfold shutA at h ⊢
  rcases List.eq_nil_or_concat a.lo with hl | ⟨lo', ta, hl⟩
  ·rw [hl] at h; cases h
  ·rw [List.concat_eq_append] at hl
   rw [hl] at h
   have e1 : (a.up R P G).lo = upLo R P G lo' ++ [ta.up R P G lo'.isEmpty] := by
    show upLo R P G a.lo = _
    rw [hl, upLo_snoc]
   rw [e1]
   simp only [List.getLast?_append, List.getLast?_singleton, Option.some_or, Option.or_some] at h ⊢
   cases hq : endA a with
   | none => rw [hq] at h; cases h
   | some q =>
    rw [hq] at h
    rw [endA_up hq]
    obtain ⟨hlo, hgg⟩ := endA_lo hq
    cases h
    have e2 : (q.up R P G).lo.dropLast = upLo R P G lo' := by
     show (upLo R P G q.lo).dropLast = _
     rw [hlo, hl, upLo_snoc, List.dropLast_concat]
    have e3 : q.lo.dropLast = lo' := by rw [hlo, hl, List.dropLast_concat]
    have e4 : q.lo.isEmpty = false := by rw [hlo, hl]; simp
    simp only [e2, e3]
    simp only [AS.item, AS.up, AL.up, e4, Bool.false_eq_true, if_false, List.nil_append, List.map_append, List.map_cons, List.map_nil, T.up, chT_up]
    congr 2
    omega
 | ba =>
  change barA a = .ok b at h
  show barA (a.up R P G) = _
  unfold barA at h ⊢
  cases hq : endA a with
  | none => rw [hq] at h; cases h
  | some q =>
   rw [hq] at h
   rw [endA_up hq]
   cases h
   simp only [AS.up]
   congr 2
   omega
 | tm n m M =>
  change timesA a n m M = .ok b at h
  show timesA (a.up R P G) n m M = _
  unfold timesA at h ⊢
  split at h
  ·rename_i hi
   obtain ⟨l, t, hit⟩ : ∃ l t, a.top.items = l ++ [t] := by
    rcases List.eq_nil_or_concat a.top.items with e | ⟨l, t, e⟩
    ·exact absurd e (hia hi)
    ·exact ⟨l, t, by rw [e, List.concat_eq_append]⟩
   have e0 : (a.up R P G).ia = true := hi
   rw [e0, if_pos rfl]
   have e1 : (a.up R P G).top.items = l.map (T.up G) ++ [t.up G] := by
    show a.top.items.map (T.up G) = _
    rw [hit]; simp
   have e2 : a.top.items.getLastD (.leaf (kindNd 0)) = t := by rw [hit, List.getLastD_eq_getLast?]; simp
   have e3 : (l.map (T.up G) ++ [t.up G]).getLastD (.leaf (kindNd 0)) = t.up G := by rw [List.getLastD_eq_getLast?]; simp
   rw [e2, hit, List.dropLast_concat] at h
   rw [e1, e3, List.dropLast_concat]
   cases h
   simp only [AS.up, AL.up, List.map_append, List.map_cons, List.map_nil, T.up]
   congr 2
   omega
  ·cases h
 | er e => cases h
theorem actA_g {t : Tk5} (h : actA a t = .ok b) : a.g ≤ b.g := by
 cases t with
 | it x n f => cases h; exact Nat.le_refl _
 | op =>
  change openA a = .ok b at h
  unfold openA at h
  split at h
  ·cases h
  ·cases h; exact Nat.le_succ _
 | sh =>
  change shutA a = .ok b at h
  unfold shutA at h
  split at h
  ·cases h
  ·split at h
   ·cases h
   ·rename_i q hq
    have := (endA_lo hq).2
    cases h
    show a.g ≤ q.g
    omega
 | ba =>
  change barA a = .ok b at h
  unfold barA at h
  split at h
  ·cases h
  ·rename_i q hq
   have := (endA_lo hq).2
   cases h
   show a.g ≤ q.g
   omega
 | tm n m M =>
  change timesA a n m M = .ok b at h
  unfold timesA at h
  split at h
  ·cases h; exact Nat.le_refl _
  ·cases h
 | er e => cases h
end
theorem sts_g {s : List UInt8} {a b : AS} (h : Sts s a b) : a.g ≤ b.g := by
 induction h with
 | refl a => exact Nat.le_refl _
 | step h1 _ ih =>
  obtain ⟨c, _, ha⟩ := h1
  exact Nat.le_trans (actA_g ha) ih
theorem sts_up {s v : List UInt8} {R : List T} {P G : Nat} (hd : ∀ p, s.drop p = v.drop (p + P)) {a b : AS} (h : Sts s a b) : CInv a → b.g + G ≤ 9 → Sts v (a.up R P G) (b.up R P G) := by
 induction h with
 | refl a => exact fun _ _ => .refl _
 | @step a b c h1 h2 ih =>
  intro hi hg
  have hgb := sts_g h2
  have hst : St v (a.up R P G) (b.up R P G) := h1.drop hd _ _ rfl (fun t L _ ha => actA_up ha (by omega) (fun e => by
   obtain ⟨l, t, hl, _⟩ := hi.ia e
   rw [hl]; simp))
  obtain ⟨x, hx, ha⟩ := h1
  exact .step hst (ih (hi.act (tok_ok s a.p x hx) ha) hg)
theorem sts_inv {s : List UInt8} {a b : AS} (h : Sts s a b) : CInv a → CInv b := by
 induction h with
 | refl a => exact id
 | step h1 _ ih =>
  intro hi
  obtain ⟨x, hx, ha⟩ := h1
  exact ih (hi.act (tok_ok s _ x hx) ha)
def bottom (a : AS) : Nat × Nat := match a.lo with
 | [] => (a.top.p, a.top.n)
 | x :: _ => (x.p, x.n)
theorem bottom_snoc (p g : Nat) (l : List AL) (x y : AL) (i : Bool) : bottom ⟨p, l ++ [x], y, g, i⟩ = bottom ⟨p, l, x, g, i⟩ := by cases l <;> rfl
theorem endA_bot {a b : AS} (h : endA a = some b) : bottom b = bottom a ∧ b.top.p = a.top.p ∧ b.top.n = a.top.n ∧ b.lo = a.lo := by
 unfold endA at h
 split at h
 ·cases h
 ·cases h
  refine ⟨?_, rfl, rfl, rfl⟩
  unfold bottom
  cases a.lo <;> rfl
theorem bottom_same {a b : AS} (h1 : b.lo = a.lo) (h2 : b.top.p = a.top.p) (h3 : b.top.n = a.top.n) : bottom b = bottom a := by
 unfold bottom
 rw [h1]
 cases a.lo with
 | nil => simp only; rw [h2, h3]
 | cons x l => rfl
theorem actA_bot {a b : AS} {t : Tk5} (h : actA a t = .ok b) : bottom b = bottom a := by
 cases t with
 | it x n f => cases h; exact bottom_same rfl rfl rfl
 | op =>
  change openA a = .ok b at h
  unfold openA at h
  split at h
  ·cases h
  ·cases h
   rw [bottom_snoc]
   exact bottom_same rfl rfl rfl
 | sh =>
  change shutA a = .ok b at h
  unfold shutA at h
  rcases List.eq_nil_or_concat a.lo with hl | ⟨lo', ta, hl⟩
  ·rw [hl] at h; cases h
  ·rw [List.concat_eq_append] at hl
   rw [hl] at h
   simp only [List.getLast?_append, List.getLast?_singleton, Option.some_or, Option.or_some] at h
   cases hq : endA a with
   | none => rw [hq] at h; cases h
   | some q =>
    rw [hq] at h
    obtain ⟨_, _, _, hlo⟩ := endA_bot hq
    cases h
    have e3 : q.lo.dropLast = lo' := by rw [hlo, hl, List.dropLast_concat]
    rw [e3]
    have e : bottom a = bottom ⟨a.p, lo' ++ [ta], a.top, a.g, a.ia⟩ := bottom_same hl rfl rfl
    rw [e, bottom_snoc]
    exact bottom_same rfl rfl rfl
 | ba =>
  change barA a = .ok b at h
  unfold barA at h
  split at h
  ·cases h
  ·rename_i q hq
   obtain ⟨_, h1, h2, h3⟩ := endA_bot hq
   cases h
   exact bottom_same h3 h1 h2
 | tm n m M =>
  change timesA a n m M = .ok b at h
  unfold timesA at h
  split at h
  ·cases h; exact bottom_same rfl rfl rfl
  ·cases h
 | er e => cases h
theorem sts_bot {s : List UInt8} {a b : AS} (h : Sts s a b) : bottom b = bottom a := by
 induction h with
 | refl a => rfl
 | step h1 _ ih =>
  obtain ⟨c, _, ha⟩ := h1
  rw [ih, actA_bot ha]
theorem first_level {s : List UInt8} {b : AS} (h : Sts s startA b) (hl : b.lo = []) : b.top.n = 0 ∧ b.top.p = 0 := by
 have := sts_bot h
 unfold bottom at this
 rw [hl] at this
 simp only [startA, Prod.mk.injEq] at this
 exact ⟨this.2, this.1⟩
structure EndsAs (b : AS) (t : T) (q : AS) : Prop where
 e : endA b = some q
 lo : q.lo = []
 ne : q.top.rows ≠ []
 i : q.top.items = []
 ch : chT 5 q.top.rows = t
 g : b.g = grp t
 can : ∀ r ∈ q.top.rows, Can5 1 r
 p : q.p = b.p
 ia : q.g = b.g
theorem ends_as {s : List UInt8} {b : AS} {t : T} (hi : CInv b) (h : finA s b = .ok t) : ∃ q, EndsAs b t q := by
 unfold finA at h
 cases hq : endA b with
 | none => rw [hq] at h; cases h
 | some q =>
  rw [hq] at h
  obtain ⟨hc, hit, hr, hlo, hp, htp, htn, hg⟩ := hi.endA hq
  simp only at h
  split at h
  ·cases h
  ·rename_i h0
   have h0 : q.lo = [] := Decidable.not_not.1 h0
   cases h
   have hgg : q.g = q.top.n + grpL q.top.all := hc.g
   have hn0 : q.top.n = 0 := by
    have hlo' : LO q.lo q.top.n := hc.lo
    rw [h0] at hlo'
    cases hz : q.top.n with
    | zero => rfl
    | succ k =>
     rw [hz] at hlo'
     generalize hl : ([] : List AL) = l at hlo'
     generalize hk : k + 1 = m at hlo'
     cases hlo' with
     | nil => omega
     | snoc _ _ => simp at hl
   refine ⟨q, hq, h0, hr, hit, rfl, ?_, (hc.ca q.top (by simp)).1, hp, hg⟩
   rw [← hg, hgg, hn0, chT_grp, AL.all, hit, List.append_nil]; omega
theorem tree_alt {s t : List UInt8} {ta tb : T} (ha : treeP s = .ok ta) (hb : treeP t = .ok tb) (hg : grp ta + grp tb ≤ 9) :
  ∃ tc, treeP (s ++ [124] ++ t) = .ok tc ∧ tc.size = ta.size + tb.size + 1 ∧ ((∃ l r, ta = .two 5 l r) ∨ (Can5 1 ta ∧ tc = .two 5 ta (tb.up (grp ta)))) := by
 obtain ⟨b, s1, p1, f1⟩ := tree_sts ha
 obtain ⟨c, s2, p2, f2⟩ := tree_sts hb
 have ib := sts_inv s1 startA_inv
 have ic := sts_inv s2 startA_inv
 obtain ⟨q, hq⟩ := ends_as ib f1
 obtain ⟨r, hr⟩ := ends_as ic f2
 have x1 : Sts (s ++ [124] ++ t) startA b := by
  rw [List.append_assoc]; exact s1.ext
 have x2 : St (s ++ [124] ++ t) b { q with p := q.p + 1, ia := false } := by
  refine ⟨124, ?_, ?_⟩
  ·rw [p1]; simp
  ·show barA b = _
   unfold barA
   rw [hq.e]
 have eup : ({ q with p := q.p + 1, ia := false } : AS) = startA.up q.top.rows (s.length + 1) (grp ta) := by
  obtain ⟨qp, qlo, ⟨qtp, qtn, qr, qi⟩, qg, qia⟩ := q
  have e1 := hq.lo
  have e2 := hq.i
  have e3 := hq.p
  have e4 := hq.g
  have e5 := hq.ia
  simp only at e1 e2 e3 e4 e5
  have hqc := ib.endA hq.e
  have etn : qtn = b.top.n := hqc.2.2.2.2.2.2.1
  have etp : qtp = b.top.p := hqc.2.2.2.2.2.1
  subst e1 e2
  have hc := hqc.1
  have h0 : qtn = 0 ∧ qtp = 0 := by
   have := first_level s1 (by have := hqc.2.2.2.1; simpa using this.symm)
   omega
  simp only [AS.up, startA, AL.up, upLo, List.isEmpty_nil, if_true, List.map_nil, List.append_nil, Nat.zero_add]
  rw [h0.1, h0.2, e3, p1, e5, e4]
 rw [eup] at x2
 have x3 : Sts (s ++ [124] ++ t) (startA.up q.top.rows (s.length + 1) (grp ta)) (c.up q.top.rows (s.length + 1) (grp ta)) := by
  refine sts_up (s := t) (fun p => ?_) s2 startA_inv (by rw [hr.g]; omega)
  rw [Nat.add_comm p, ← List.drop_drop]
  congr 1
  rw [List.drop_append_of_le_length (by simp), List.drop_of_length_le (by simp)]
  rfl
 have x := x1.trans (.step x2 x3)
 have hend : endA (c.up q.top.rows (s.length + 1) (grp ta)) = some (r.up q.top.rows (s.length + 1) (grp ta)) := endA_up hr.e
 have hlo : (r.up q.top.rows (s.length + 1) (grp ta)).lo = [] := by
  show upLo _ _ _ r.lo = []
  rw [hr.lo]; rfl
 have hrows : (r.up q.top.rows (s.length + 1) (grp ta)).top.rows = q.top.rows ++ r.top.rows.map (T.up (grp ta)) := by
  show (if r.lo.isEmpty then q.top.rows else []) ++ _ = _
  rw [hr.lo]; rfl
 have htc : treeP (s ++ [124] ++ t) = .ok (chT 5 (q.top.rows ++ r.top.rows.map (T.up (grp ta)))) := by
  rw [tree_of x (by show _ ≤ c.p + (s.length + 1); rw [p2]; simp; omega)]
  unfold finA
  rw [hend]
  simp only [hlo, ne_eq, not_true_eq_false, if_false, hrows]
 have hnr : r.top.rows.map (T.up (grp ta)) ≠ [] := by simpa using hr.ne
 refine ⟨_, htc, ?_, ?_⟩
 ·have k1 := chT_size 5 (q.top.rows ++ r.top.rows.map (T.up (grp ta))) (by simp [hq.ne])
  have k2 := chT_size 5 q.top.rows hq.ne
  have k3 := chT_size 5 (r.top.rows.map (T.up (grp ta))) hnr
  rw [chT_up, up_size] at k3
  rw [szL_app, List.length_append] at k1
  rw [hq.ch] at k2
  rw [hr.ch] at k3
  omega
 ·cases hqr : q.top.rows with
  | nil => exact absurd hqr hq.ne
  | cons u l =>
   cases l with
   | nil =>
    have htu : u = ta := by have := hq.ch; rw [hqr] at this; exact this
    refine .inr ⟨by rw [← htu]; exact hq.can u (by rw [hqr]; simp), ?_⟩
    rw [← hr.ch, ← chT_up, htu]
    cases hm : r.top.rows.map (T.up (grp ta)) with
    | nil => exact absurd hm hnr
    | cons x y => rfl
   | cons v l => exact .inl ⟨u, chT 5 (v :: l), by have := hq.ch; rw [hqr] at this; exact this.symm⟩
end Go.Proofs.YtdjcgjkbecncaaaGreatDoor
