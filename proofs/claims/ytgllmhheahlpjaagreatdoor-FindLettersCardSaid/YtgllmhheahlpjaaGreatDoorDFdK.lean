/- The walk of FindLetters. -/
import Derived.Test.YtgllmhheahlpjaaGreatDoorJFdC
import Derived.Test.YtgllmhheahlpjaaGreatDoorJFdF
import Derived.Test.YtgllmhheahlpjaaGreatDoorJFdG
import Derived.Test.YtgllmhheahlpjaaGreatDoorJMaD
import Derived.Test.YtgllmhheahlpjaaGreatDoorJMbB
import Derived.Test.YtgllmhheahlpjaaGreatDoorJMbH
import Derived.Test.YtgllmhheahlpjaaGreatDoorJMbL
import Derived.Test.YtgllmhheahlpjaaGreatDoorJMbN
import Derived.Test.YtgllmhheahlpjaaGreatDoorJMbO
import Derived.Test.YtgllmhheahlpjaaGreatDoorJMbS
import Derived.Test.YtgllmhheahlpjaaGreatDoorJMbT
import Derived.Test.YtgllmhheahlpjaaGreatDoorJMbV
import Derived.Test.YtgllmhheahlpjaaGreatDoorJMbW
import Derived.Test.YtgllmhheahlpjaaGreatDoorJMcD
import Derived.Test.YtgllmhheahlpjaaGreatDoorJMcH
import Derived.Test.YtgllmhheahlpjaaGreatDoorJMcK
import Derived.Test.YtgllmhheahlpjaaGreatDoorJMcM
import Derived.Test.YtgllmhheahlpjaaGreatDoorJMcN
import Derived.Test.YtgllmhheahlpjaaGreatDoorJMcO
import Derived.Test.YtgllmhheahlpjaaGreatDoorJMcQ
import Derived.Test.YtgllmhheahlpjaaGreatDoorJMcT
import Derived.Test.YtgllmhheahlpjaaGreatDoorJMcV
import Derived.Test.YtgllmhheahlpjaaGreatDoorJMdB
import Derived.Test.YtgllmhheahlpjaaGreatDoorJMdN
import Derived.Test.YtgllmhheahlpjaaGreatDoorJRxA
import Derived.Test.YtgllmhheahlpjaaGreatDoorJRxB
import Derived.Test.YtgllmhheahlpjaaGreatDoorJRxD
import Derived.Test.YtgllmhheahlpjaaGreatDoorJRxG
import Derived.Test.YtgllmhheahlpjaaGreatDoorJRxTa
import Derived.Test.YtgllmhheahlpjaaGreatDoorJRxTj
import Derived.Test.YtgllmhheahlpjaaGreatDoorJRxTn
import Derived.Test.YtgllmhheahlpjaaGreatDoorJRxTo
import Derived.Test.YtgllmhheahlpjaaGreatDoorJRxTr
import Derived.Test.YtgllmhheahlpjaaGreatDoorJRxU
import Derived.Test.YtgllmhheahlpjaaGreatDoorJRxW
import Derived.Test.YtgllmhheahlpjaaGreatDoorJRxX
import Derived.Test.YtgllmhheahlpjaaGreatDoorJShelf
import Derived.Test.YtgllmhheahlpjaaGreatDoorJSpanC
import Derived.Test.YtgllmhheahlpjaaGreatDoorRows
import Derived.Test.YtgllmhheahlpjaaGreatDoorTie
import Derived.Test.YtgllmhheahlpjaaGreatDoorCards
import Derived.Lib.TrailingZeros
import Derived.Laws.Bits64b
import Derived.Laws.DeepStrings4
set_option linter.unusedVariables false
set_option linter.unusedSimpArgs false
set_option maxRecDepth 100000
set_option maxHeartbeats 40000000
namespace Go.Proofs.YtgllmhheahlpjaaGreatDoor
theorem wd_inj {f g : Nat → Bool} (h : ∀ k, k < 4 → wd f k = wd g k) : ∀ i, i < 256 → f i = g i := fun i hi => by
 have e := h (i / 64) (by omega)
 have h1 := wd_bit f (i / 64) (i % 64) (by omega)
 have h2 := wd_bit g (i / 64) (i % 64) (by omega)
 rw [e] at h1
 rw [show 64 * (i / 64) + i % 64 = i by omega] at h1 h2
 rw [← h1, ← h2]
/-! ### How many bits are 1 -/
end Go.Proofs.YtgllmhheahlpjaaGreatDoor
namespace Go.Proofs.YtgllmhheahlpjaaGreatDoor
open Go.RowKit Go.Lib
def ndO (F : Nat → Bool) : Nd := ⟨1, wd F 0, wd F 1, wd F 2, wd F 3, 0, 0, 0, 0, 0⟩
theorem cnt_none {F : Nat → Bool} (h : ∀ i, i < 256 → F i = false) : cnt F 256 = 0 := by
 rw [cnt_congr (g := F) (h := fun _ => false) h]
 have : ∀ n, cnt (fun _ => false) n = 0 := fun n => by
  induction n with
  | zero => rfl
  | succ n ih => rw [cnt, ih]; rfl
 exact this 256
theorem cnt_some {F : Nat → Bool} (h : cnt F 256 = 0) : ∀ i, i < 256 → F i = false := by
 have : ∀ n, cnt F n = 0 → ∀ i, i < n → F i = false := fun n => by
  induction n with
  | zero => intro _ i hi; omega
  | succ n ih =>
   intro h i hi
   rw [cnt] at h
   by_cases e : i = n
   ·subst e
    cases q : F i with
    | false => rfl
    | true => rw [q] at h; simp at h
   ·exact ih (by omega) i (by omega)
 exact this 256 h
theorem ndO_set (F : Nat → Bool) (i : Nat) (hi : i < 256) : (ndO F).set i = F i := by
 show ofWords (wd F 0) (wd F 1) (wd F 2) (wd F 3) i = F i
 obtain ⟨a, b, c, d⟩ := ofWords_wd (wd_lt F 0) (wd_lt F 1) (wd_lt F 2) (wd_lt F 3)
 refine wd_inj (f := ofWords (wd F 0) (wd F 1) (wd F 2) (wd F 3)) (g := F) (fun k hk => ?_) i hi
 rcases (by omega : k = 0 ∨ k = 1 ∨ k = 2 ∨ k = 3) with rfl | rfl | rfl | rfl
 ·exact a
 ·exact b
 ·exact c
 ·exact d
theorem ndO_fits (F : Nat → Bool) : (ndO F).Fits := ⟨(by show (-9223372036854775808 : Int) ≤ 1 ∧ (1 : Int) ≤ 9223372036854775807; omega), wd_lt _ _, wd_lt _ _, wd_lt _ _, wd_lt _ _, (by show (-9223372036854775808 : Int) ≤ 0 ∧ (0 : Int) ≤ 9223372036854775807; omega), (by show (-9223372036854775808 : Int) ≤ 0 ∧ (0 : Int) ≤ 9223372036854775807; omega), (by show (-9223372036854775808 : Int) ≤ 0 ∧ (0 : Int) ≤ 9223372036854775807; omega), (by show (-9223372036854775808 : Int) ≤ 0 ∧ (0 : Int) ≤ 9223372036854775807; omega), (by show (-9223372036854775808 : Int) ≤ 0 ∧ (0 : Int) ≤ 9223372036854775807; omega)⟩
theorem ndO_isNd {F : Nat → Bool} (h : cnt F 256 ≠ 0) : isNd (ndO F) = true := by
 unfold isNd
 have hk : (ndO F).kind = 1 := rfl
 rw [if_neg (by rw [hk]; omega), if_pos hk, Bool.and_eq_true, decide_eq_true_iff, decide_eq_true_iff]
 refine ⟨fun q => h (cnt_none fun i hi => ?_), rfl⟩
 rw [← ndO_set F i hi]
 show ofWords (wd F 0) (wd F 1) (wd F 2) (wd F 3) i = false
 have q' : wd F 0 = 0 ∧ wd F 1 = 0 ∧ wd F 2 = 0 ∧ wd F 3 = 0 := q
 rw [q'.1, q'.2.1, q'.2.2.1, q'.2.2.2]
 simp [ofWords]
end Go.Proofs.YtgllmhheahlpjaaGreatDoor
namespace Go.Proofs.YtgllmhheahlpjaaGreatDoor
open Go.RowKit Go.Lib
def bF (c : UInt8) : Nat → Bool := inS ⟨#[c]⟩ 1
theorem bF_at (c : UInt8) (i : Nat) : bF c i = (c.toNat == i) := by simp [bF, inS]
def lNd (c : UInt8) : Nd := ndO (bF c)
theorem cnt_bF (c : UInt8) : cnt (bF c) 256 ≠ 0 := fun h => by
 have := cnt_some h c.toNat c.toNat_lt
 rw [bF_at] at this
 simp at this
def ltT : List UInt8 → T
 | [] => .leaf (lNd 0)
 | [c] => .leaf (lNd c)
 | c :: d :: l => .two 4 (.leaf (lNd c)) (ltT (d :: l))
theorem lt_size : ∀ (c : UInt8) (l : List UInt8), (ltT (c :: l)).size = 2 * l.length + 1
 | c, [] => rfl
 | c, d :: l => by
  have := lt_size d l
  show 1 + (ltT (d :: l)).size + 1 = _
  rw [this]; simp only [List.length_cons]; omega
theorem lt_ok : ∀ (c : UInt8) (l : List UInt8), (ltT (c :: l)).Ok
 | c, [] => ⟨ndO_isNd (cnt_bF c), .inr (.inl rfl)⟩
 | c, d :: l => ⟨.inl rfl, ⟨ndO_isNd (cnt_bF c), .inr (.inl rfl)⟩, lt_ok d l⟩
theorem lt_num : ∀ (c : UInt8) (l : List UInt8) (s : Nat × (Nat → Bool)), num (ltT (c :: l)) s = some s
 | c, [], s => by
  show (if (lNd c).kind = 8 then _ else some s) = some s
  rw [if_neg (by show ¬ (1 : Int) = 8; decide)]
 | c, d :: l, s => by
  show (num (.leaf (lNd c)) s).bind (num (ltT (d :: l))) = some s
  have : num (.leaf (lNd c)) s = some s := by
   show (if (lNd c).kind = 8 then _ else some s) = some s
   rw [if_neg (by show ¬ (1 : Int) = 8; decide)]
  rw [this]
  exact lt_num d l s
theorem lt_refs : ∀ (c : UInt8) (l : List UInt8), (ltT (c :: l)).refs = 0
 | c, [] => by
  show (if (lNd c).kind = 8 then 1 else 0) = 0
  rw [if_neg (by show ¬ (1 : Int) = 8; decide)]
 | c, d :: l => by
  show (T.leaf (lNd c)).refs + (ltT (d :: l)).refs = 0
  rw [lt_refs d l]
  show (if (lNd c).kind = 8 then 1 else 0) + 0 = 0
  rw [if_neg (by show ¬ (1 : Int) = 8; decide)]
def catN (i m : Nat) : Nd := ⟨4, 0, 0, 0, 0, (i : Int), (m : Int), 0, 0, 0⟩
def catsL (k : Nat) : Nat → List Nd
 | 0 => []
 | r + 1 => catsL k r ++ [catN (k - 2 - r) (k - 1 + r)]
theorem cats_len (k : Nat) : ∀ r, (catsL k r).length = r
 | 0 => rfl
 | r + 1 => by rw [catsL, List.length_append, cats_len k r]; rfl
theorem cats_get (k : Nat) : ∀ m r, r < m → (catsL k m)[r]? = some (catN (k - 2 - r) (k - 1 + r))
 | 0, r, h => by omega
 | m + 1, r, h => by
  rw [catsL]
  by_cases e : r = m
  ·subst e
   rw [List.getElem?_append_right (by rw [cats_len]; omega), cats_len]
   simp
  ·rw [List.getElem?_append_left (by rw [cats_len]; omega)]
   exact cats_get k m r (by omega)
def xsL (l : List UInt8) (m : Nat) : List Nd := l.map lNd ++ catsL l.length m
theorem xs_len (l : List UInt8) (m : Nat) : (xsL l m).length = l.length + m := by simp [xsL, cats_len]
theorem xs_lo {l : List UInt8} {m i : Nat} {c : UInt8} (h : l[i]? = some c) : (xsL l m)[i]? = some (lNd c) := by
 have hi := (List.getElem?_eq_some_iff.1 h).1
 unfold xsL
 rw [List.getElem?_append_left (by simpa using hi), List.getElem?_map, h]; rfl
theorem xs_hi {l : List UInt8} {m r : Nat} (h : r < m) : (xsL l m)[l.length + r]? = some (catN (l.length - 2 - r) (l.length - 1 + r)) := by
 unfold xsL
 rw [List.getElem?_append_right (by simp), List.length_map, show l.length + r - l.length = r by omega]
 exact cats_get _ m r h
theorem xs_snoc (l : List UInt8) (m : Nat) : xsL l (m + 1) = xsL l m ++ [catN (l.length - 2 - m) (l.length - 1 + m)] := by
 unfold xsL; rw [catsL, List.append_assoc]
theorem xs_cases {l : List UInt8} {m i : Nat} {x : Nd} (h : (xsL l m)[i]? = some x) : (∃ c, l[i]? = some c ∧ x = lNd c) ∨ (∃ r, r < m ∧ x = catN (l.length - 2 - r) (l.length - 1 + r)) := by
 have hi := (List.getElem?_eq_some_iff.1 h).1
 rw [xs_len] at hi
 by_cases e : i < l.length
 ·left
  refine ⟨l[i], List.getElem?_eq_getElem e, ?_⟩
  rw [xs_lo (List.getElem?_eq_getElem e)] at h
  exact (Option.some.inj h).symm
 ·right
  refine ⟨i - l.length, by omega, ?_⟩
  have := xs_hi (l := l) (m := m) (r := i - l.length) (by omega)
  rw [show l.length + (i - l.length) = i by omega, h] at this
  exact Option.some.inj this
theorem lt_at (l : List UInt8) : ∀ (d o : Nat), o + d + 1 = l.length → T.At (fun i => (xsL l (l.length - 1))[i]?) (ltT (l.drop o)) o
 | 0, o, h => by
  rw [List.drop_eq_getElem_cons (by omega : o < l.length), show l.drop (o + 1) = [] from List.drop_eq_nil_of_le (by omega)]
  exact xs_lo (List.getElem?_eq_getElem (by omega))
 | d + 1, o, h => by
  have ih := lt_at l d (o + 1) (by omega)
  have e1 := List.drop_eq_getElem_cons (by omega : o < l.length)
  have e2 := List.drop_eq_getElem_cons (by omega : o + 1 < l.length)
  rw [e1]
  rw [e2] at ih ⊢
  refine ⟨xs_lo (List.getElem?_eq_getElem (by omega)), ih, ?_⟩
  have hs := lt_size l[o + 1] (l.drop (o + 1 + 1))
  rw [List.length_drop] at hs
  show (xsL l (l.length - 1))[o + 1 + (ltT (l[o + 1] :: l.drop (o + 1 + 1))).size]? = some ⟨4, 0, 0, 0, 0, (o : Int) + ((1 : Nat) : Int) - 1, (o : Int) + ((1 : Nat) : Int) + ((ltT (l[o + 1] :: l.drop (o + 1 + 1))).size : Int) - 1, 0, 0, 0⟩
  rw [hs, show o + 1 + (2 * (l.length - (o + 1 + 1)) + 1) = l.length + (l.length - 2 - o) by omega, xs_hi (by omega)]
  unfold catN
  simp only [Option.some.injEq, Nd.mk.injEq, true_and, and_true]
  omega
theorem lt_pat (c : UInt8) (l : List UInt8) (hl : l.length ≤ 40) : IsPat (xsL (c :: l) l.length) (ltT (c :: l)) := by
 have hat := lt_at (c :: l) l.length 0 (by simp)
 refine ⟨lt_ok c l, hat, by rw [lt_size, xs_len]; simp only [List.length_cons]; omega, by rw [xs_len]; simp only [List.length_cons]; omega, fun i x h => ?_, fun i x h => ?_, by rw [lt_num]; rfl⟩
 ·rcases xs_cases h with ⟨d, _, rfl⟩ | ⟨r, _, rfl⟩
  ·exact ndO_isNd (cnt_bF d)
  ·simp [isNd, catN]
 ·rcases xs_cases h with ⟨d, _, rfl⟩ | ⟨r, hr, rfl⟩
  ·unfold pOk
   have hk : (lNd d).kind = 1 := rfl
   rw [if_neg (by rw [hk]; omega), if_neg (by rw [hk]; omega), if_neg (by rw [hk]; omega), if_neg (by rw [hk]; omega)]
   trivial
  ·have hk : ∀ a : Nat, a < (c :: l).length + l.length → kindAt (xsL (c :: l) l.length) (a : Int) = 1 ∨ ((c :: l).length ≤ a ∧ kindAt (xsL (c :: l) l.length) (a : Int) = 4) := fun a ha => by
    obtain ⟨y, hy⟩ : ∃ y, (xsL (c :: l) l.length)[a]? = some y := ⟨(xsL (c :: l) l.length)[a]'(by rw [xs_len]; exact ha), List.getElem?_eq_getElem _⟩
    have e : kindAt (xsL (c :: l) l.length) (a : Int) = y.kind := by unfold kindAt; rw [Int.toNat_natCast, hy]
    rw [e]
    by_cases q : a < (c :: l).length
    ·left
     rw [xs_lo (List.getElem?_eq_getElem q)] at hy
     rw [← Option.some.inj hy]; rfl
    ·right
     rcases xs_cases hy with ⟨z, hz, rfl⟩ | ⟨r', _, rfl⟩
     ·exact absurd (List.getElem?_eq_some_iff.1 hz).1 q
     ·exact ⟨by omega, rfl⟩
   have k1 := hk ((c :: l).length - 2 - r) (by omega)
   have k2 := hk ((c :: l).length - 1 + r) (by simp only [List.length_cons] at hr ⊢; omega)
   unfold pOk
   have e4 : (catN ((c :: l).length - 2 - r) ((c :: l).length - 1 + r)).kind = 4 := rfl
   rw [if_neg (by rw [e4]; omega), if_pos e4]
   show kindAt _ (((c :: l).length - 2 - r : Nat) : Int) ≠ 4 ∧ kindAt _ (((c :: l).length - 2 - r : Nat) : Int) ≠ 5 ∧ kindAt _ (((c :: l).length - 1 + r : Nat) : Int) ≠ 5
   simp only [List.length_cons] at k1 k2 ⊢
   omega
theorem lNd_fits (c : UInt8) : (lNd c).Fits := ndO_fits _
theorem xs_fits {l : List UInt8} {m : Nat} (hl : l.length ≤ 1000) (hm : m ≤ 1000) (i : Nat) (x : Nd) (h : (xsL l m)[i]? = some x) : x.Fits := by
 rcases xs_cases h with ⟨d, _, rfl⟩ | ⟨r, hr, rfl⟩
 ·exact lNd_fits d
 ·unfold catN
  exact ⟨by simp only; omega, by simp only; omega, by simp only; omega, by simp only; omega, by simp only; omega, by simp only; omega, by simp only; omega, by simp only; omega, by simp only; omega, by simp only; omega⟩
def hitR (s l : List UInt8) (i : Nat) : Bool := decide ((s.drop i).take l.length = l)
theorem leaf_ends (s : List UInt8) (c : UInt8) (i k : Nat) (had : Cp) (j : Nat) : (semT s (.leaf (lNd c))).ends i k had j = decide (s[i]? = some c ∧ j = i + 1) := by
 show (if (lNd c).kind = -1 then decide (i ≤ j) && decide (j ≤ s.length) else match leafE s (lNd c) i had with | some w => decide (j = i + w) | none => false) = _
 rw [if_neg (by show ¬ (1 : Int) = -1; decide)]
 have e : leafE s (lNd c) i had = (match s[i]? with | some b => if (lNd c).set b.toNat then some 1 else none | none => none) := by
  unfold leafE
  rw [if_neg (by show ¬ (1 : Int) = 0; decide), if_pos (show (lNd c).kind = 1 from rfl)]
  cases s[i]? <;> rfl
 rw [e]
 cases hb : s[i]? with
 | none => simp
 | some b =>
  have hs : (lNd c).set b.toNat = (c.toNat == b.toNat) := by
   rw [show (lNd c).set b.toNat = bF c b.toNat from ndO_set _ _ b.toNat_lt, bF_at]
  simp only [hs]
  by_cases q : b = c
  ·subst q; simp
  ·have q' : ¬ c.toNat = b.toNat := fun h => q (UInt8.toNat_inj.1 h.symm)
   simp [q, q']
theorem hit_cons {s : List UInt8} {c : UInt8} {l : List UInt8} {i : Nat} : hitR s (c :: l) i = (decide (s[i]? = some c) && hitR s l (i + 1)) := by
 unfold hitR
 rw [Bool.eq_iff_iff, Bool.and_eq_true, decide_eq_true_iff, decide_eq_true_iff, decide_eq_true_iff]
 by_cases h : i < s.length
 ·rw [List.drop_eq_getElem_cons h, List.getElem?_eq_getElem h, List.length_cons, List.take_succ_cons, List.cons.injEq, Option.some.injEq]
 ·rw [List.drop_eq_nil_of_le (by omega), List.getElem?_eq_none (by omega)]
  simp
theorem hit_le {s l : List UInt8} {i : Nat} (h : hitR s l i = true) (hl : l ≠ []) : i + l.length ≤ s.length := by
 unfold hitR at h
 rw [decide_eq_true_iff] at h
 have := congrArg List.length h
 rw [List.length_take, List.length_drop] at this
 have := List.length_pos_iff.2 hl
 omega
theorem semT_cat {s : List UInt8} (k : Int) (a b : T) (hk : k = 4) : semT s (.two k a b) = catS s (semT s a) (semT s b) := by rw [semT, if_pos hk]
theorem lt_ends (s : List UInt8) : ∀ (c : UInt8) (l : List UInt8) (i k : Nat) (had : Cp) (j : Nat), i ≤ s.length → (semT s (ltT (c :: l))).ends i k had j = (hitR s (c :: l) i && decide (j = i + l.length + 1))
 | c, [], i, k, had, j, hi => by
  rw [show ltT [c] = .leaf (lNd c) from rfl, leaf_ends, hit_cons]
  have : hitR s [] (i + 1) = true := by unfold hitR; simp
  rw [this, Bool.and_true, Bool.decide_and]
  rfl
 | c, d :: l, i, k, had, j, hi => by
  have e : semT s (ltT (c :: d :: l)) = catS s (semT s (.leaf (lNd c))) (semT s (ltT (d :: l))) := by
   exact semT_cat _ _ _ rfl
  rw [e]
  show anyR i s.length (catK (semT s (.leaf (lNd c))) (semT s (ltT (d :: l))) i j had) = _
  rw [hit_cons, Bool.eq_iff_iff, anyR_iff]
  simp only [Bool.and_eq_true, decide_eq_true_iff]
  constructor
  ·rintro ⟨m, h1, h2, h3⟩
   unfold catK at h3
   rw [Bool.and_eq_true, leaf_ends, decide_eq_true_iff, lt_ends s d l m 0 _ j h2, Bool.and_eq_true, decide_eq_true_iff] at h3
   obtain ⟨⟨q1, rfl⟩, q2, q3⟩ := h3
   exact ⟨⟨q1, q2⟩, by simp only [List.length_cons]; omega⟩
  ·rintro ⟨⟨q1, q2⟩, q3⟩
   have hi' := (List.getElem?_eq_some_iff.1 q1).1
   refine ⟨i + 1, by omega, by omega, ?_⟩
   unfold catK
   rw [Bool.and_eq_true, leaf_ends, decide_eq_true_iff, lt_ends s d l (i + 1) 0 _ j (by omega), Bool.and_eq_true, decide_eq_true_iff]
   exact ⟨⟨q1, rfl⟩, q2, by simp only [List.length_cons] at q3; omega⟩
theorem lt_long (s : List UInt8) (c : UInt8) (l : List UInt8) (i : Nat) (hi : i ≤ s.length) : lgR s (ltT (c :: l)) i = if hitR s (c :: l) i = true then some (i + l.length + 1) else none := by
 unfold lgR
 by_cases h : hitR s (c :: l) i = true
 ·rw [if_pos h]
  have hle := hit_le h (by simp)
  simp only [List.length_cons] at hle
  exact great_at (by omega) (by omega) (by rw [lt_ends s c l i 0 noC _ hi, h]; simp) (fun j h1 h2 => by rw [lt_ends s c l i 0 noC _ hi, h]; simp; omega)
 ·rw [if_neg h]
  exact great_no (fun j h1 h2 => by rw [lt_ends s c l i 0 noC _ hi]; simp [h])
def wI : Option (Nat × Nat) → Int
 | some x => (x.1 : Int)
 | none => -1
end Go.Proofs.YtgllmhheahlpjaaGreatDoor
namespace Go.Proofs.YtgllmhheahlpjaaGreatDoor
open Go.RowKit Go.Lib Go.Maps Go.WideMaps
theorem own_nodes {w : World} {B : Nat} {v : Value} {xs : List Nd} (h : w.ownsRow B 60 10 v xs.length (flat xs)) (hp : 0 < xs.length) :
  ∃ g cap, v = .slice (some ⟨g, 0, none⟩) xs.length cap ∧ NodesAt w g 0 xs := by
 rcases h.2 with ⟨_, h0⟩ | ⟨g, cap, cur, rfl, hg, hb, _, _, hc, ht⟩
 ·omega
 ·refine ⟨g, cap, rfl, (Array.getElem?_eq_some_iff.1 hb).1, fun i x hx j u hj => ?_⟩
  have hi : i < xs.length := (List.getElem?_eq_some_iff.1 hx).1
  have hj10 : j < 10 := by
   have := (Array.getElem?_eq_some_iff.1 hj).1
   simpa [Nd.cells] using this
  rw [cell_of _ _ _ _ hb, Nat.zero_add]
  have e1 := flat_get xs i j x hx hj10
  rw [hj] at e1
  have : (cur.toList.take (xs.length * 10))[i * 10 + j]? = (flat xs)[i * 10 + j]? := by rw [ht]
  rw [List.getElem?_take_of_lt (by omega), e1] at this
  rw [← this]
  simp
theorem one_new (w : World) (z : Nd) (j : Nat) : (w.alloc (.cells z.cells 60)).cell? ⟨w.heap.size, j, none⟩ = z.cells[j]? := by
 rw [cell_of _ _ _ _ (heap_new w (.cells z.cells 60))]
theorem cells_one (x : Nd) : ∀ u ∈ x.cells.toList, u.oneCell' = true := fun u hu => by
 simp [Nd.cells] at hu
 rcases hu with rfl | rfl | rfl | rfl | rfl | rfl | rfl | rfl | rfl | rfl <;> rfl
end Go.Proofs.YtgllmhheahlpjaaGreatDoor
namespace Go.Proofs.YtgllmhheahlpjaaGreatDoor
open Go.RowKit Go.Lib Go.Maps Go.WideMaps Go.Proofs.YtgllmhheahlpjaaGreatDoor.Fl
theorem own_belowF {X Y : World} {B : Nat} {e : TypeId} {sz n : Nat} {v : Value} {xs : List Value} (h : X.ownsRow B e sz v n xs) (hB : Below X.heap.size X Y) : Y.ownsRow B e sz v n xs :=
 h.kept (grown_belowF hB) (by cases q : v.ownBlock with
  | none => exact .inl rfl
  | some b => exact .inr (by simp))
theorem flat_snocF (xs : List Nd) (x : Nd) : flat (xs ++ [x]) = flat xs ++ x.cells.toList := by simp [flat]
theorem slice_at {A : ByteArray} {s : List UInt8} (hA : A = ⟨s.toArray⟩) (i d : Nat) (hd : i + d ≤ s.length) (W : World) : (Instr.slice 9 (.string A) (some (.int .i64 (i : Int))) (some (.int .i64 ((i : Int) + (d : Int)))) none).run Tryz.prog W = .ok (.string ⟨((s.drop i).take d).toArray⟩) W := by
 have hsz : A.size = s.length := by rw [hA]; simp [ByteArray.size]
 rw [run_slice_string_if (P := Tryz.prog) W 9 _ .i64 .i64 (i : Int) ((i : Int) + (d : Int)) Tryz.underlying9, if_pos ⟨by omega, by rw [hsz]; omega⟩, if_pos ⟨by omega, by omega⟩, show ((i : Int) + (d : Int)).toNat = i + d by omega, Int.toNat_natCast, hA, extract_list, show i + d - i = d by omega]
theorem eq_strs (D A : ByteArray) (t : TypeId) (W : World) (ht : Tryz.prog.underlying t = some .string) : (binOp .eql t (.string D) (.string A)).run Tryz.prog W = .ok (.bool (D.toList == A.toList)) W := by
 go_simp
theorem find_lt (c : UInt8) (l : List UInt8) (hl : l.length ≤ 5) (t : List UInt8) (ht : t.length ≤ 8) (g cap : Nat) (w : World) (hx : NodesAt w g 0 (xsL (c :: l) l.length)) (hT : TabAt 0 Lib.deBruijn64tab w) (h0 : 0 < w.heap.size) :
  FindF (some ⟨g, 0, none⟩) (2 * l.length + 1) cap t w (lgC t (ltT (c :: l))) (lgR t (ltT (c :: l))) := by
 have hp := lt_pat c l (by omega)
 have hlen : (xsL (c :: l) l.length).length = 2 * l.length + 1 := by rw [xs_len]; simp only [List.length_cons]; omega
 refine ⟨fun k m h => ?_, fun k m h => ?_, by omega, lg_cap hp, fun k hk W hB => ?_⟩
 ·have := greatest_some h; exact ⟨this.1, this.2.1⟩
 ·unfold lgC wholeC; rw [h]; rfl
 ·have := Longest_c g 0 cap t _ _ hp (fun i x h => xs_fits (by simp only [List.length_cons]; omega) (by omega) i x h) (by omega) (fun h => absurd h (by rw [lt_refs]; omega)) k hk W (hx.below hB hx.lt) (tab_below hT hB h0) (Nat.lt_of_lt_of_le h0 hB.size)
  rw [hlen] at this
  exact this
theorem letters_go (c : UInt8) (l t : List UInt8) (hl : l.length ≤ 5) (ht : t.length ≤ 8) (w : World) (hf : Fit4 w) (hsh : ∀ W, Below w.heap.size w W → Calls Tryz.prog 26 #[] W fun e w' => e = .returned (.bool true) ∧ Below W.heap.size W w') :
  Calls Tryz.prog 9 #[.string ⟨(c :: l).toArray⟩, .string ⟨t.toArray⟩] w fun e w' => e = .returned (.bool true) ∧ Below w.heap.size w w' := by
 obtain ⟨i0, hi, hz0, hz1, hz2⟩ := info_parts infoNd
 obtain ⟨s, hs⟩ : ∃ s, s = c :: l := ⟨_, rfl⟩
 obtain ⟨k, hk⟩ : ∃ k, k = s.length := ⟨_, rfl⟩
 have hkl : k = l.length + 1 := by rw [hk, hs]; rfl
 rw [← hs]
 obtain ⟨A, hA⟩ : ∃ A : ByteArray, A = ⟨s.toArray⟩ := ⟨_, rfl⟩
 have hAz : A.size = k := by rw [hA, hk]; simp [ByteArray.size]
 have hAl : A.toList = s := by rw [hA, Lib.toList_data]
 have e1 : A.toList.isEmpty = false := by rw [hAl, hs]; rfl
 have e2 : ¬ A.toList = [] := by rw [hAl, hs]; simp
 obtain ⟨B, hB⟩ : ∃ B : ByteArray, B = ⟨t.toArray⟩ := ⟨_, rfl⟩
 have hBz : B.size = t.length := by rw [hB]; simp [ByteArray.size]
 rw [← hA, ← hB]
 have f1 : ¬ (6 : Int) < (k : Int) := by omega
 have f2 : ¬ (8 : Int) < (t.length : Int) := by omega
 have HSH := Lib.hid hsh
 have HS := Lib.hid (And.intro hs (And.intro hk (And.intro hkl (And.intro hA hB))))
 have HF := Lib.hid hf
 have hk6 : k ≤ 6 := by omega
 have hk1 : 1 ≤ k := by omega
 clear hsh hs hk hA hB hAl hf hkl
 go_enter Tryz.func9, Tryz.ntmps9
 go_wp2_with fail
 refine (HSH.out _ (Below.refl _ _)).mono ?_
 rintro e w1 ⟨rfl, hB1⟩
 have HB1 := Lib.hid hB1
 clear hB1
 go_wp2
 have l1 := HB1.out.size
 have hown0 : (w1.alloc (.cells #[] 60)).ownsRow w.heap.size 60 10 (.slice (some ⟨w1.heap.size, 0, none⟩) 0 0) 0 [] := by simpa using World.ownsRow_made w1 #[] 0 l1 (Nat.zero_le _) (by simp)
 have HO0 := Lib.hid (And.intro hown0 (HB1.out.alloc l1 (.cells #[] 60)))
 clear hown0 l1
 go_loopw [5, 6] (fun lv iv wr => ∃ (j : Nat) (v' : Value), v' = lv ∧ j ≤ k ∧ iv = .int .i64 (j : Int) ∧ wr.ownsRow w.heap.size 60 10 v' j (flat ((s.map lNd).take j)) ∧ Below w.heap.size w wr) (fun _ iv _ => k - (RowKit.intOf iv).toNat)
 case atStart => exact ⟨0, _, rfl, Nat.zero_le _, rfl, HO0.out.1, HO0.out.2⟩
 case round =>
  obtain ⟨j, v', rfl, hj, rfl, hown, hB⟩ := hrel
  have lB := hB.size
  have HON := Lib.hid (And.intro hown hB)
  clear hown hB
  by_cases hlt : j < k
  ·have hji : (j : Int) < (k : Int) := by omega
   obtain ⟨b, hb⟩ : ∃ b, s[j]? = some b := ⟨s[j]'(by rw [← HS.out.2.1]; exact hlt), List.getElem?_eq_getElem _⟩
   have hd : (s.drop j).take 1 = [b] := by
    obtain ⟨h1, h2⟩ := List.getElem?_eq_some_iff.1 hb
    rw [List.drop_eq_getElem_cons h1, h2]; rfl
   have HSL : Hid (∀ W, (Instr.slice 9 (.string A) (some (.int .i64 (j : Int))) (some (.int .i64 ((j : Int) + 1))) none).run Tryz.prog W = .ok (.string ⟨#[b]⟩) W) := Lib.hid (fun W => by
    have := slice_at HS.out.2.2.2.1 j 1 (by have := HS.out.2.1; omega) W
    rw [hd] at this; exact this)
   have HOF : Hid (∀ W, Calls Tryz.prog 39 #[.string ⟨#[b]⟩] W fun e w' => e = .returned (sv (bF b)) ∧ Below W.heap.size W w') := Lib.hid (fun W => of_c ⟨#[b]⟩ (by show 1 < _; omega) W)
   have hsn : flat ((s.map lNd).take (j + 1)) = flat ((s.map lNd).take j) ++ (lNd b).cells.toList := by
    obtain ⟨h1, h2⟩ := List.getElem?_eq_some_iff.1 hb
    rw [← flat_snocF, ← List.map_take, ← List.map_take, List.take_succ_eq_append_getElem h1, h2, List.map_append]; rfl
   have HSN := Lib.hid hsn
   have hsl := HSL.out
   clear hb hd hsn
   go_wp2_with fail
   refine (HOF.out _).mono ?_
   rintro e w3 ⟨rfl, hB3⟩
   have ho3 := own_belowF HON.out.1 hB3
   have hb3 := HON.out.2.trans (hB3.mono lB)
   have l3 := hb3.size
   have HON3 := Lib.hid (And.intro ho3 hb3)
   clear ho3 hb3 hB3
   unfold sv
   go_wp2_with (at_builtin; refine wpList_append_own _ rfl _ _ 22 rfl w.heap.size 60 i0 (.agg #[.int .i64 0, .int .u64 0, .int .u64 0, .int .u64 0, .int .u64 0, .int .i64 0, .int .i64 0, .int .i64 0, .int .i64 0, .int .i64 0]) 10 80 Tryz.underlying22 hi hz0 hz1 hz2 rfl (by decide) _ _ _ rfl (HON3.out.1.alloc _) ⟨w3.heap.size, 0, none⟩ 1 1 (lNd b).cells.toList rfl rfl ?qc2 ?qc3 ?qc4 ?qc5 ?qc6 ?_)
   case qc2 => (intro j u hj; rw [Addr.add_lit, Nat.zero_add]; refine (one_new w3 (lNd b) j).trans ?_; simpa using hj)
   case qc3 => exact cells_one _
   case qc4 => (unfold maxLen; omega)
   case qc5 => omega
   case qc6 => (simp; omega)
   intro v1 w4 hown1 hgrow hnil
   have hB1 : Below w.heap.size w w4 := (HON3.out.2.alloc l3 _).grown hgrow (by simp; omega) (fun k hk => (HON3.out.1.lt k hk).1)
   have HO1 := Lib.hid (And.intro hown1 hB1)
   clear hown1 hB1 hgrow hnil
   go_wp2
   go_roundw
   case rel => exact ⟨j + 1, v1, rfl, by omega, by go_num, by rw [HSN.out]; exact HO1.out.1, HO1.out.2⟩
   case measure => (simp [RowKit.intOf]) <;> omega
  ·obtain rfl : j = k := by omega
   have hji : ¬ (j : Int) < (j : Int) := by omega
   have HO1 : Hid (wr.ownsRow w.heap.size 60 10 v' (j + 0) (flat (xsL s 0)) ∧ Below w.heap.size w wr) := Lib.hid ⟨by
    have := HON.out.1
    rw [show (s.map lNd).take j = s.map lNd from List.take_of_length_le (by rw [List.length_map, HS.out.2.1]; exact Nat.le_refl _)] at this
    have e : xsL s 0 = s.map lNd := by simp [xsL, catsL]
    rw [e]; exact this, HON.out.2⟩
   clear HON
   go_wp2
   go_loopw [5, 7] (fun lv iv wq => ∃ (r : Nat) (v2 : Value), v2 = lv ∧ r ≤ j - 1 ∧ iv = .int .i64 ((j : Int) - 2 - (r : Int)) ∧ wq.ownsRow w.heap.size 60 10 v2 (j + r) (flat (xsL s r)) ∧ Below w.heap.size w wq) (fun _ iv _ => (RowKit.intOf iv + 1).toNat)
   case atStart => exact ⟨0, _, rfl, Nat.zero_le _, by first | rfl | (simp), HO1.out.1, HO1.out.2⟩
   case round =>
    obtain ⟨r, v2, rfl, hr, rfl, hown, hB⟩ := hrel
    have lB := hB.size
    obtain ⟨g, cap0, hv⟩ : ∃ g cap0, v2 = .slice (some ⟨g, 0, none⟩) (j + r) cap0 := by
     rcases hown.2 with ⟨_, h0⟩ | ⟨g, cap0, cur, e, _⟩
     ·omega
     ·exact ⟨g, cap0, e⟩
    subst hv
    have HON := Lib.hid (And.intro hown hB)
    clear hown hB
    by_cases hlt : r < j - 1
    ·have hji : (0 : Int) ≤ (j : Int) - 2 - (r : Int) := by omega
     obtain ⟨nd, hnd⟩ : ∃ nd : Nd, nd = ⟨4, 0, 0, 0, 0, (j : Int) - 2 - (r : Int), (j : Int) + (r : Int) - 1, 0, 0, 0⟩ := ⟨_, rfl⟩
     have hcat : nd = catN (s.length - 2 - r) (s.length - 1 + r) := by
      rw [hnd, ← HS.out.2.1]
      unfold catN
      simp only [Nd.mk.injEq, true_and, and_true]
      omega
     have HCAT := Lib.hid hcat
     have HND := Lib.hid hnd
     clear hcat hnd
     go_wp2_with (at_builtin; refine wpList_append_own _ rfl _ _ 22 rfl w.heap.size 60 i0 (.agg #[.int .i64 0, .int .u64 0, .int .u64 0, .int .u64 0, .int .u64 0, .int .i64 0, .int .i64 0, .int .i64 0, .int .i64 0, .int .i64 0]) 10 80 Tryz.underlying22 hi hz0 hz1 hz2 rfl (by decide) _ _ _ rfl (HON.out.1.alloc _) ⟨wr.heap.size, 0, none⟩ 1 1 nd.cells.toList rfl rfl ?qc2 ?qc3 ?qc4 ?qc5 ?qc6 ?_)
     case qc2 => (intro j u hj; rw [Addr.add_lit, Nat.zero_add]; refine Eq.trans ?_ ((one_new wr nd j).trans (by simpa using hj)); rw [HND.out]; rfl)
     case qc3 => exact cells_one _
     case qc4 => (unfold maxLen; omega)
     case qc5 => omega
     case qc6 => (simp; omega)
     intro v1 w4 hown1 hgrow hnil
     have hB1 : Below w.heap.size w w4 := (HON.out.2.alloc lB _).grown hgrow (by simp; omega) (fun k hk => (HON.out.1.lt k hk).1)
     rw [HCAT.out, ← flat_snocF, ← xs_snoc] at hown1
     have HO1 := Lib.hid (And.intro hown1 hB1)
     clear hown1 hB1 hgrow hnil
     go_wp2
     go_roundw
     case rel => exact ⟨r + 1, v1, rfl, by omega, by first | go_num | (congr 1; omega), HO1.out.1, HO1.out.2⟩
     case measure => (simp [RowKit.intOf]) <;> omega
    ·obtain rfl : r = j - 1 := by omega
     have hji : ¬ (0 : Int) ≤ (j : Int) - 2 - ((j - 1 : Nat) : Int) := by omega
     have hjl : l.length = j - 1 := by have := HS.out.2.2.1; omega
     have hln : (xsL s (j - 1)).length = j + (j - 1) := by rw [xs_len, ← HS.out.2.1]
     obtain ⟨g2, cap2, e5, hN⟩ := own_nodes (xs := xsL s (j - 1)) (by rw [hln]; exact HON.out.1) (by rw [hln]; omega)
     rw [hln] at e5
     simp only [Value.slice.injEq, Option.some.injEq, Addr.mk.injEq] at e5
     obtain ⟨⟨rfl, _⟩, _, rfl⟩ := e5
     have hp := lt_pat c l (by omega)
     have hfi := fun i x h => xs_fits (l := c :: l) (m := l.length) (by simp only [List.length_cons]; omega) (by omega) i x h
     rw [hjl, ← HS.out.1] at hp hfi
     have hfd := find_lt c l hl t ht g cap0 wr (by rw [hjl, ← HS.out.1]; exact hN) (tab_below HF.out.f.fit.tab HON.out.2 HF.out.f.fit.pos) (by have := HF.out.f.fit.pos; omega)
     rw [show 2 * l.length + 1 = j + (j - 1) by omega] at hfd
     have hlg := lt_long t c l
     obtain ⟨F, hFF⟩ : ∃ F, F = lgR t (ltT (c :: l)) := ⟨_, rfl⟩
     obtain ⟨C, hCC⟩ : ∃ C, C = lgC t (ltT (c :: l)) := ⟨_, rfl⟩
     rw [← hFF, ← hCC] at hfd
     have hlg2 : ∀ i, i ≤ t.length → F i = if hitR t s i = true then some (i + j) else none := fun i hi => by
      rw [hFF, hlg i hi, HS.out.1, show i + l.length + 1 = i + j by omega]
     have HMY := Lib.hid (fun (W : World) (h : NodesAt W g 0 (xsL s (j - 1))) => may_in g 0 (xsL s (j - 1)).length cap0 (xsL s (j - 1)) rfl (by rw [hln]; omega) (by rw [hln]; omega) hfi true ⟨fun _ => ⟨_, hp⟩, fun _ => rfl⟩ W h)
     rw [hln] at HMY
     have HFD := Lib.hid hfd
     have HLG := Lib.hid hlg2
     have HNN := Lib.hid hN
     clear hjl hln hN hp hfi hfd hlg hFF hCC hlg2
     go_wp2
     go_loopw [8, 9] (fun wv iv wq => ∃ (wt x : Int), wv = .int .i64 wt ∧ iv = .int .i64 x ∧ wq = wr ∧ ((∃ m : Nat, x = (m : Int) - 1 ∧ m + j ≤ t.length + 1 ∧ wt = wI (fstP F t.length m)) ∨ (t.length < j ∧ x = (t.length : Int) - (j : Int) ∧ wt = -1))) (fun _ iv _ => (RowKit.intOf iv + 1).toNat)
     case atStart =>
      refine ⟨-1, (t.length : Int) - (j : Int), rfl, rfl, rfl, ?_⟩
      by_cases q : t.length < j
      ·exact .inr ⟨q, rfl, rfl⟩
      ·left
       refine ⟨t.length - j + 1, by omega, by omega, ?_⟩
       have : fstP F t.length (t.length - j + 1) = none := fst_ext_none (fun i h1 h2 => by
        rw [HLG.out i h2, if_neg]
        intro hh
        have := hit_le hh (by rw [HS.out.1]; simp)
        have := HS.out.2.1
        omega)
       rw [this]; rfl
     case round =>
      obtain ⟨wt, x, rfl, rfl, hwq, hc⟩ := hrel
      subst hwq
      by_cases hx : 0 ≤ x
      ·obtain ⟨m, hxm, hmj, hwt⟩ : ∃ m : Nat, x = (m : Int) ∧ m + j ≤ t.length ∧ wt = wI (fstP F t.length (m + 1)) := by
        rcases hc with ⟨m, h1, h2, h3⟩ | ⟨h1, h2, _⟩
        ·obtain ⟨m', rfl⟩ : ∃ m', m = m' + 1 := ⟨m - 1, by omega⟩
         exact ⟨m', by omega, by omega, h3⟩
        ·omega
       subst hxm
       obtain ⟨D, hD⟩ : ∃ D : ByteArray, D = ⟨((t.drop m).take j).toArray⟩ := ⟨_, rfl⟩
       have hsl := fun W => slice_at HS.out.2.2.2.2 m j (by omega) W
       rw [← hD] at hsl
       obtain ⟨R, hR⟩ : ∃ R, R = hitR t s m := ⟨_, rfl⟩
       have heq : ∀ W, (binOp .eql 9 (.string D) (.string A)).run Tryz.prog W = .ok (.bool R) W := fun W => by
        rw [eq_strs D A _ W Tryz.underlying9, hD, HS.out.2.2.2.1, Lib.toList_data, Lib.toList_data, hR]
        unfold hitR
        rw [← HS.out.2.1, Bool.beq_eq_decide_eq]
       have hDl : (D.toList == A.toList) = R := by
        rw [hD, HS.out.2.2.2.1, Lib.toList_data, Lib.toList_data, hR]
        unfold hitR
        rw [← HS.out.2.1, Bool.beq_eq_decide_eq]
       have HR := Lib.hid hR
       have HWT := Lib.hid hwt
       have hji2 : (m : Int) + (j : Int) ≤ (t.length : Int) := by omega
       clear hR hD hc hwt
       cases R with
       | true =>
        have hq : wI (fstP F t.length m) = (m : Int) := by
         rw [fst_hit HFD.out.bd (show F m = some (m + j) by rw [HLG.out m (by omega), if_pos HR.out.symm])]; rfl
        have HQ := Lib.hid hq
        clear hq
        go_wp2
        go_roundw
        case rel => exact ⟨(m : Int), (m : Int) - 1, rfl, rfl, by first | rfl | trivial, .inl ⟨m, rfl, by omega, HQ.out.symm⟩⟩
        case measure => (simp [RowKit.intOf]) <;> omega
       | false =>
        have hq : wI (fstP F t.length m) = wt := by
         rw [HWT.out, fst_step HFD.out.bd (show F m = none by rw [HLG.out m (by omega), if_neg (by rw [← HR.out]; simp)])]
        have HQ := Lib.hid hq
        clear hq
        go_wp2
        go_roundw
        case rel => exact ⟨wt, (m : Int) - 1, rfl, rfl, by first | rfl | trivial, .inl ⟨m, rfl, by omega, HQ.out.symm⟩⟩
        case measure => (simp [RowKit.intOf]) <;> omega
      ·have hwt : wt = wI (fstP F t.length 0) := by
        rcases hc with ⟨m, h1, h2, h3⟩ | ⟨h1, h2, h3⟩
        ·obtain rfl : m = 0 := by omega
         exact h3
        ·have : fstP F t.length 0 = none := fst_ext_none (fun i h4 h5 => by
          rw [HLG.out i h5, if_neg]
          intro hh
          have := hit_le hh (by rw [HS.out.1]; simp)
          have := HS.out.2.1
          omega)
         rw [this]; exact h3
       obtain ⟨q, hq⟩ : ∃ q, q = fstP F t.length 0 := ⟨_, rfl⟩
       rw [← hq] at hwt
       have HFI : Hid (FirstK (some ⟨g, 0, none⟩) (j + (j - 1)) cap0 t wr C 0 q) := Lib.hid (by rw [hq]; exact ffirst_c HFD.out 0 0 (by omega) (by omega))
       have HHA := Lib.hid (fun W (h : Below wr.heap.size wr W) => fhas_c HFD.out W h)
       rw [← hq] at HHA
       obtain ⟨Y, hY⟩ : ∃ Y, Y = capP C q := ⟨_, rfl⟩
       unfold FirstK at HFI
       rw [← hY] at HFI
       rw [← HS.out.2.2.2.2] at HFI HHA
       have HQ := Lib.hid (And.intro hq (And.intro hY hwt))
       clear hc hq hY hwt
       go_wp2_with fail
       refine (HFI.out _ (Below.refl _ _)).mono ?_
       rintro e w4 ⟨rfl, hB4⟩
       have hb4 := capBlk w4 Y
       have HB4 := Lib.hid (hB4.alloc hB4.size (.cells (cH Y) 27))
       have HK4 := Lib.hid hb4
       have l4 := hB4.size
       clear hb4 hB4
       unfold capV
       go_wp2_with fail
       refine (HMY.out _ (HNN.out.below HB4.out HNN.out.lt)).mono ?_
       rintro e w5 ⟨rfl, hB5⟩
       have hk5 := HK4.out.below hB5 (by rw [World.size_alloc]; omega)
       obtain ⟨k0, k1, k2, k3, k4, k5, k6, k7, k8, k9⟩ := capBlk.ten hk5
       have HB5 := Lib.hid (HB4.out.trans (hB5.mono HB4.out.size))
       clear hk5 hB5
       have HHC := Lib.hid (HHA.out _ HB5.out)
       clear HHA HFI HMY
       cases q with
       | none =>
        obtain rfl : wt = -1 := HQ.out.2.2
        simp only [Option.isSome_none] at HHC ⊢
        go_wp2_with fail
        refine HHC.out.mono ?_
        rintro e w6 ⟨rfl, hB6⟩
        have HB6 := Lib.hid (HON.out.2.trans ((HB5.out.trans (hB6.mono HB5.out.size)).mono HON.out.2.size))
        clear hB6
        go_wp2
        go_ret
        exact ⟨rfl, HB6.out⟩
       | some x =>
        obtain ⟨a, b⟩ := x
        have hf := fst_some HFD.out.bd HQ.out.1.symm
        have hFa := HLG.out a (by omega)
        rw [hf.2.2.2.1] at hFa
        have hba : b = a + j := by
         split at hFa
         ·simpa using hFa
         ·cases hFa
        have hY0 : Y 0 = some (a, b) := by rw [HQ.out.2.1]; exact HFD.out.at0 a b hf.2.2.2.1
        obtain rfl : wt = (a : Int) := HQ.out.2.2
        have HFR : Hid (∀ w, Calls Tryz.prog 36 #[spV (Y 0)] w fun e w' => e = .returned (.int .i64 (a : Int)) ∧ w' = w) := Lib.hid (fun w => by rw [hY0]; exact from_at hf.2.1 (by omega) w)
        have HLE : Hid (∀ w, Calls Tryz.prog 38 #[spV (Y 0)] w fun e w' => e = .returned (.int .i64 (j : Int)) ∧ w' = w) := Lib.hid (fun w => by
         have := len_some a b hf.2.1 (by omega) w
         rw [hY0]
         rw [show ((b - a : Nat) : Int) = (j : Int) by omega] at this; exact this)
        have p1 : (0 : Int) ≤ (a : Int) := by omega
        have p2 : ((a : Int) == (a : Int)) = true := by simp
        have p3 : ((j : Int) == (j : Int)) = true := by simp
        clear hf hFa hba hY0
        simp only [Option.isSome_some] at HHC ⊢
        go_wp2_with fail
        refine (HFR.out _).mono ?_
        rintro e w6 ⟨rfl, rfl⟩
        go_wp2_with fail
        refine (HLE.out _).mono ?_
        rintro e w6 ⟨rfl, rfl⟩
        go_wp2_with fail
        refine HHC.out.mono ?_
        rintro e w6 ⟨rfl, hB6⟩
        have HB6 := Lib.hid (HON.out.2.trans ((HB5.out.trans (hB6.mono HB5.out.size)).mono HON.out.2.size))
        clear hB6
        go_wp2
        go_ret
        exact ⟨rfl, HB6.out⟩
theorem findLettersB (s t : ByteArray) (w : World) (hs : s.size ≤ reachBytes) (ht : t.size ≤ reachBytes) (hf : Fit4 w) :
  Calls Tryz.prog 9 #[.string s, .string t] w fun e w' => e = .returned (.bool true) ∧ Below w.heap.size w w' := by
 obtain ⟨s, rfl⟩ : ∃ l : List UInt8, s = ⟨l.toArray⟩ := ⟨s.data.toList, by simp⟩
 obtain ⟨t, rfl⟩ : ∃ l : List UInt8, t = ⟨l.toArray⟩ := ⟨t.data.toList, by simp⟩
 have hsh : ∀ W, Below w.heap.size w W → Calls Tryz.prog 26 #[] W fun e w' => e = .returned (.bool true) ∧ Below W.heap.size W w' := fun W hB => shown7_c W (hf.below hB) (hf.below hB).f.fit.tab (hf.below hB).f.fit.pos
 have hsz : (⟨s.toArray⟩ : ByteArray).size = s.length := by simp [ByteArray.size]
 have htz : (⟨t.toArray⟩ : ByteArray).size = t.length := by simp [ByteArray.size]
 have HSH := Lib.hid hsh
 cases s with
 | nil =>
  clear hs ht hf hsh
  go_enter Tryz.func9, Tryz.ntmps9
  go_wp2_with fail
  refine (HSH.out _ (Below.refl _ _)).mono ?_
  rintro e w1 ⟨rfl, hB1⟩
  have HB1 := Lib.hid hB1
  clear hB1
  go_wp2
  go_ret
  exact ⟨rfl, HB1.out⟩
 | cons c l =>
  by_cases h1 : l.length ≤ 5
  ·by_cases h2 : t.length ≤ 8
   ·exact letters_go c l t h1 h2 w hf hsh
   ·obtain ⟨A, hA⟩ : ∃ A : ByteArray, A = ⟨(c :: l).toArray⟩ := ⟨_, rfl⟩
    obtain ⟨B, hB⟩ : ∃ B : ByteArray, B = ⟨t.toArray⟩ := ⟨_, rfl⟩
    rw [← hA] at hs hsz ⊢
    rw [← hB] at ht htz ⊢
    have e1 : A.toList.isEmpty = false := by rw [hA, Lib.toList_data]; rfl
    have e2 : ¬ A.toList = [] := by rw [hA, Lib.toList_data]; simp
    have q1 : ¬ (6 : Int) < (A.size : Int) := by rw [hsz]; simp only [List.length_cons]; omega
    have q2 : (8 : Int) < (B.size : Int) := by rw [htz]; omega
    have q3 : ¬ 6 < A.size := by omega
    have q4 : 8 < B.size := by omega
    clear hf hsh hA hB hsz htz h1 h2
    go_enter Tryz.func9, Tryz.ntmps9
    go_wp2_with fail
    refine (HSH.out _ (Below.refl _ _)).mono ?_
    rintro e w1 ⟨rfl, hB1⟩
    have HB1 := Lib.hid hB1
    clear hB1
    go_wp2
    go_ret
    exact ⟨rfl, HB1.out⟩
  ·obtain ⟨A, hA⟩ : ∃ A : ByteArray, A = ⟨(c :: l).toArray⟩ := ⟨_, rfl⟩
   rw [← hA] at hs hsz ⊢
   have q1 : (6 : Int) < (A.size : Int) := by rw [hsz]; simp only [List.length_cons]; omega
   have q3 : 6 < A.size := by omega
   clear hf hsh hA hsz htz h1
   go_enter Tryz.func9, Tryz.ntmps9
   go_wp2_with fail
   refine (HSH.out _ (Below.refl _ _)).mono ?_
   rintro e w1 ⟨rfl, hB1⟩
   have HB1 := Lib.hid hB1
   clear hB1
   go_wp2
   go_ret
   exact ⟨rfl, HB1.out⟩
end Go.Proofs.YtgllmhheahlpjaaGreatDoor
