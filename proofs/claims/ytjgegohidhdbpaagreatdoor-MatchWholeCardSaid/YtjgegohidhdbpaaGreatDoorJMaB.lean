/- match: what a pattern reaches, and what it leaves. Of no program. -/
import Derived.Test.YtjgegohidhdbpaaGreatDoorJRxTj
set_option linter.unusedVariables false
set_option linter.unusedSimpArgs false
set_option maxRecDepth 100000
set_option maxHeartbeats 40000000
namespace Go.Proofs.YtjgegohidhdbpaaGreatDoor
open Go.RowKit Go.Lib
abbrev Cp := Nat → Option (Nat × Nat)
abbrev Gs := Nat → Bool
def qP (c : Cp) (g : Gs) : Cp := fun i => if g i then c i else none
def zx (c d : Cp) : Cp := fun i => if (d i).isSome then d i else c i
def qdP (a b : Gs) : Bool := (List.range 10).all fun g => !(a g && b g)
def XP (a : Gs) : Bool := (List.range 10).all fun g => !a g
def zZ (a b : Nat) (f : Nat → Bool) : Bool := (List.range (b + 1)).any fun k => decide (a ≤ k) && f k
def greatest (a : Nat) (f : Nat → Bool) : Nat → Option Nat
 | 0 => if a = 0 ∧ f 0 = true then some 0 else none
 | b + 1 => if a ≤ b + 1 ∧ f (b + 1) = true then some (b + 1) else greatest a f b
structure Sem where
 asked : Gs
 always : Gs
 ever : Gs
 ends : Nat → Nat → Cp → Nat → Bool
 walk : Nat → Nat → Cp → Cp
def Sem.leave (S : Sem) (p j : Nat) (had : Cp) : Cp := if XP S.ever then had else zx had (S.walk p j (qP had S.asked))
def qW (A : Sem) (asked : Gs) (p : Nat) (had : Cp) (k : Nat) : Cp := if qdP A.ever asked then had else A.leave p k had
def qO (m M : Int) (c : Nat) : Nat := if M = -1 then min (c + 1) m.toNat else c + 1
section
variable (s : List UInt8)
def zE (x : Nd) (p : Nat) (had : Cp) : Option Nat :=
 if x.kind = 0 then some 0
 else if x.kind = 1 then (match s[p]? with | some b => if x.set b.toNat then some 1 else none | none => none)
 else if x.kind = 2 then (if p = 0 then some 0 else none)
 else if x.kind = 3 then (if p = s.length then some 0 else none)
 else if x.kind = 8 then (match had x.n.toNat with
  | none => none
  | some (a, b) => if ((s.drop a).take (b - a)).isPrefixOf (s.drop p) then some (b - a) else none)
 else none
def zi (x : Nd) : Sem where
 asked := fun g => decide (x.kind = 8) && decide (x.n.toNat = g)
 always := fun _ => false
 ever := fun _ => false
 ends := fun p _ had j => if x.kind = -1 then decide (p ≤ j) && decide (j ≤ s.length) else match zE s x p had with
  | some w => decide (j = p + w)
  | none => false
 walk := fun _ _ had => had
def ke (n : Nat) (A : Sem) : Sem where
 asked := A.asked
 always := fun g => A.always g || decide (g = n)
 ever := fun g => A.ever g || decide (g = n)
 ends := fun p _ had j => A.ends p 0 had j
 walk := fun p j had => fun g => if g = n then some (p, j) else A.leave p j had g
def kP (A B : Sem) : Sem where
 asked := fun g => A.asked g || B.asked g
 always := fun g => A.always g && B.always g
 ever := fun g => A.ever g || B.ever g
 ends := fun p _ had j => A.ends p 0 had j || B.ends p 0 had j
 walk := fun p j had => if A.ends p 0 had j then A.leave p j had else B.leave p j had
def kf (A B : Sem) (p j : Nat) (had : Cp) (k : Nat) : Bool := A.ends p 0 had k && B.ends k 0 (qW A B.asked p had k) j
def jm (A B : Sem) : Sem where
 asked := fun g => A.asked g || (B.asked g && !A.always g)
 always := fun g => A.always g || B.always g
 ever := fun g => A.ever g || B.ever g
 ends := fun p _ had j => zZ p s.length (kf A B p j had)
 walk := fun p j had => match greatest p (kf A B p j had) j with
  | some k => B.leave k j (A.leave p k had)
  | none => had
def kg (F : Nat → Bool) (m M : Int) : Nat → Nat → Nat → Nat → Bool
 | 0, p, c, j => decide (m ≤ c) && decide (j = p)
 | f + 1, p, c, j => (decide (m ≤ c) && decide (j = p)) || (decide ((c : Int) ≠ M) && (match s[p]? with | some b => F b.toNat | none => false) && kg F m M f (p + 1) (c + 1) j)
def zc (A : Sem) (m M : Int) : Nat → Nat → Nat → Cp → Nat → Bool
 | 0, p, c, had, j => decide (j = p) && (decide (m ≤ c) || A.ends p 0 had p)
 | f + 1, p, c, had, j => (decide (j = p) && (decide (m ≤ c) || A.ends p 0 had p)) ||
  (decide ((c : Int) ≠ M) && zZ (p + 1) s.length fun k => A.ends p 0 had k && zc A m M f k (qO m M c) (qW A A.asked p had k) j)
def zK (A : Sem) (m M : Int) : Nat → Nat → Nat → Cp → Nat → Cp
 | 0, p, c, had, j => if (c : Int) < m then A.leave j j had else had
 | f + 1, p, c, had, j => if p < j then
   (match greatest (p + 1) (fun k => A.ends p 0 had k && zc s A m M (s.length - k) k (qO m M c) (qW A A.asked p had k) j) j with
   | some k => zK A m M f k (qO m M c) (A.leave p k had) j
   | none => if (c : Int) < m then A.leave j j had else had)
  else if (c : Int) < m then A.leave j j had else had
def T.isBytes : T → Option (Nat → Bool)
 | .leaf x => if x.kind = 1 then some x.set else none
 | _ => none
def jR (m M : Int) (F : Option (Nat → Bool)) (A : Sem) : Sem where
 asked := A.asked
 always := fun g => if m = 0 then false else A.always g
 ever := A.ever
 ends := fun p c had j => match F with
  | some F => kg s F m M (s.length - p) p 0 j
  | none => zc s A m M (s.length - p) p c had j
 walk := fun p j had => zK s A m M (j - p) p 0 had j
def qd : T → Sem
 | .leaf x => zi s x
 | .two k a b => if k = 4 then jm s (qd a) (qd b) else kP (qd a) (qd b)
 | .times m M t => jR s m M t.isBytes (qd t)
 | .group n t => ke n.toNat (qd t)
end
def loosen : T → T
 | .leaf x => if x.kind = 8 then .leaf ⟨-1, 0, 0, 0, 0, 0, 0, 0, 0, 0⟩ else .leaf x
 | .two k a b => .two k (loosen a) (loosen b)
 | .times m M t => .times m M (loosen t)
 | .group n t => .group n (loosen t)
/-! What holds of them. -/
theorem qF {a b : Nat} {f : Nat → Bool} : zZ a b f = true ↔ ∃ k, a ≤ k ∧ k ≤ b ∧ f k = true := by
 unfold zZ
 rw [List.any_eq_true]
 constructor
 ·rintro ⟨k, h1, h2⟩
  rw [Bool.and_eq_true, decide_eq_true_iff] at h2
  exact ⟨k, h2.1, by have := List.mem_range.1 h1; omega, h2.2⟩
 ·rintro ⟨k, h1, h2, h3⟩
  exact ⟨k, List.mem_range.2 (by omega), by rw [h3, Bool.and_true, decide_eq_true_iff]; exact h1⟩
theorem qL {a : Nat} {f : Nat → Bool} : ∀ {b k : Nat}, greatest a f b = some k → a ≤ k ∧ k ≤ b ∧ f k = true
 | 0, k, h => by
  unfold greatest at h
  split at h
  ·rename_i q; cases h; exact ⟨by omega, Nat.le_refl _, q.2⟩
  ·cases h
 | b + 1, k, h => by
  unfold greatest at h
  split at h
  ·rename_i q; cases h; exact ⟨q.1, Nat.le_refl _, q.2⟩
  ·have := qL h; exact ⟨this.1, by omega, this.2.2⟩
theorem jb {a : Nat} {f : Nat → Bool} : ∀ {b : Nat}, greatest a f b = none → ∀ k, a ≤ k → k ≤ b → f k = false
 | 0, h, k, h1, h2 => by
  unfold greatest at h
  split at h
  ·cases h
  ·rename_i q
   obtain rfl : k = 0 := by omega
   cases hf : f 0 with
   | false => rfl
   | true => exact absurd ⟨by omega, hf⟩ q
 | b + 1, h, k, h1, h2 => by
  unfold greatest at h
  split at h
  ·cases h
  ·rename_i q
   rcases Nat.lt_or_ge k (b + 1) with r | r
   ·exact jb h k h1 (by omega)
   ·obtain rfl : k = b + 1 := by omega
    cases hf : f (b + 1) with
    | false => rfl
    | true => exact absurd ⟨h1, hf⟩ q
theorem yX {a b : Nat} {f g : Nat → Bool} (h : ∀ k, a ≤ k → k ≤ b → f k = g k) : zZ a b f = zZ a b g := by
 rw [Bool.eq_iff_iff, qF, qF]
 constructor
 ·rintro ⟨k, h1, h2, h3⟩; exact ⟨k, h1, h2, by rw [← h k h1 h2]; exact h3⟩
 ·rintro ⟨k, h1, h2, h3⟩; exact ⟨k, h1, h2, by rw [h k h1 h2]; exact h3⟩
theorem Z5 {a b : Gs} : qdP a b = true ↔ ∀ g, g < 10 → ¬ (a g = true ∧ b g = true) := by
 unfold qdP
 rw [List.all_eq_true]
 constructor
 ·intro h g hg q
  have := h g (List.mem_range.2 hg)
  rw [q.1, q.2] at this
  cases this
 ·intro h g hg
  have := h g (List.mem_range.1 hg)
  rw [Bool.not_eq_true']
  cases ha : a g <;> cases hb : b g <;> simp [ha, hb] at this ⊢
theorem jg {a : Gs} : XP a = true ↔ ∀ g, g < 10 → a g = false := by
 unfold XP
 rw [List.all_eq_true]
 constructor
 ·intro h g hg; simpa using h g (List.mem_range.2 hg)
 ·intro h g hg; simpa using h g (List.mem_range.1 hg)
def qo (n : Nat) (c : Cp) : Prop := ∀ g a b, c g = some (a, b) → a ≤ b ∧ b ≤ n
structure vt (n : Nat) (S : Sem) : Prop where
 le : ∀ p c had j, qo n had → p ≤ n → S.ends p c had j = true → p ≤ j ∧ j ≤ n
 cap : ∀ p j had, qo n had → p ≤ j → j ≤ n → qo n (S.walk p j had)
 ten : ∀ g, (S.asked g = true ∨ S.ever g = true) → g < 10
 sub : ∀ g, S.always g = true → S.ever g = true
 keep : ∀ p j had g, S.ever g = false → S.walk p j had g = had g
 has : ∀ p had j g, qo n had → p ≤ n → S.ends p 0 had j = true → S.always g = true → (S.walk p j (qP had S.asked) g).isSome = true
 ask : ∀ p c had qw, qo n had → qo n qw → p ≤ n → (∀ g, S.asked g = true → had g = qw g) → S.ends p c had = S.ends p c qw
theorem vt.leave_keep {n : Nat} {S : Sem} (h : vt n S) {p j g : Nat} {had : Cp} (hg : S.ever g = false) : S.leave p j had g = had g := by
 unfold Sem.leave
 split
 ·rfl
 ·unfold zx
  rw [h.keep _ _ _ _ hg]
  unfold qP
  cases S.asked g with
  | false => rfl
  | true => simp only [if_true]; split <;> rfl
theorem vd {had qw : Cp} {G : Gs} (h : ∀ g, G g = true → had g = qw g) : qP had G = qP qw G := by
 funext g
 unfold qP
 split
 ·exact h g ‹_›
 ·rfl
theorem qo.only {n : Nat} {c : Cp} (h : qo n c) (G : Gs) : qo n (qP c G) := fun g a b e => by
 unfold qP at e
 split at e
 ·exact h g a b e
 ·cases e
theorem qo.over {n : Nat} {c d : Cp} (h : qo n c) (k : qo n d) : qo n (zx c d) := fun g a b e => by
 unfold zx at e
 split at e
 ·exact k g a b e
 ·exact h g a b e
theorem qo.none {n : Nat} : qo n fun _ => none := fun g a b e => by cases e
section
variable {n : Nat} {S A : Sem} {had qw had0 : Cp} {G : Gs} {p j k g : Nat}
theorem vt.leave_cap (h : vt n S) (hc : qo n had) (h1 : p ≤ j) (h2 : j ≤ n) : qo n (S.leave p j had) := by
 unfold Sem.leave
 split
 ·exact hc
 ·exact hc.over (h.cap p j _ (hc.only _) h1 h2)
theorem vt.left_cap (h : vt n S) (hc : qo n had) (h1 : p ≤ j) (h2 : j ≤ n) : qo n (qW S G p had j) := by
 unfold qW
 split
 ·exact hc
 ·exact h.leave_cap hc h1 h2
theorem vt.leave_ask (h : vt n S) (hc : qo n had) (hp : p ≤ n) (he : S.always g = true → S.ends p 0 had j = true) (ha : ∀ g, S.asked g = true → had g = qw g) (hg : S.always g = true ∨ had g = qw g) : S.leave p j had g = S.leave p j qw g := by
 unfold Sem.leave
 split
 ·rename_i hn
  rcases hg with hg | hg
  ·have h1 := h.sub g hg
   have := jg.1 hn g (h.ten g (.inr h1))
   rw [h1] at this; cases this
  ·exact hg
 ·unfold zx
  rw [vd ha]
  rcases hg with hg | hg
  ·have := h.has p had j g hc hp (he hg) hg
   rw [vd ha] at this
   rw [if_pos this, if_pos this]
  ·rw [hg]
theorem vt.left_ask (hA : vt n A) (hB : ∀ g, G g = true → g < 10) (hc : qo n had) (hp : p ≤ n) (he : A.ends p 0 had k = true) (ha : ∀ g, A.asked g = true → had g = qw g) (hb : ∀ g, G g = true → A.always g = false → had g = qw g) : ∀ g, G g = true → qW A G p had k g = qW A G p qw k g := by
 intro g hg
 unfold qW
 split
 ·rename_i hd
  refine hb g hg ?_
  cases hal : A.always g with
  | false => rfl
  | true => exact absurd ⟨hA.sub g hal, hg⟩ (Z5.1 hd g (hB g hg))
 ·refine hA.leave_ask hc hp (fun _ => he) ha ?_
  cases hal : A.always g with
  | true => exact .inl rfl
  | false => exact .inr (hb g hg hal)
theorem vt.leave_has (h : vt n A) (hc : qo n had) (hp : p ≤ n) (he : A.ends p 0 had j = true) (q : A.always g = true) : (A.leave p j had g).isSome = true := by
 unfold Sem.leave
 have Xg := h.sub g q
 split
 ·rename_i hn
  have := jg.1 hn g (h.ten g (.inr Xg))
  rw [Xg] at this; cases this
 ·unfold zx
  have := h.has p had j g hc hp he q
  rw [if_pos this]
  exact this
theorem vR (hs : (had g).isSome = true) : (A.leave p j had g).isSome = true := by
 unfold Sem.leave
 split
 ·exact hs
 ·unfold zx
  split
  ·assumption
  ·exact hs
end
theorem qdQ {s : List UInt8} {x : Nd} {p w : Nat} {had : Cp} (hc : qo s.length had) (hp : p ≤ s.length) (h : zE s x p had = some w) : p + w ≤ s.length := by
 unfold zE at h
 split at h
 ·cases h; omega
 ·split at h
  ·split at h
   ·rename_i b hb
    have := (List.getElem?_eq_some_iff.1 hb).1
    split at h
    ·cases h; omega
    ·cases h
   ·cases h
  ·split at h
   ·split at h
    ·cases h; omega
    ·cases h
   ·split at h
    ·split at h
     ·cases h; omega
     ·cases h
    ·split at h
     ·split at h
      ·cases h
      ·rename_i a b Kq
       split at h
       ·rename_i q
        cases h
        rw [List.isPrefixOf_iff_prefix] at q
        have := q.length_le
        have hh := hc _ _ _ Kq
        rw [List.length_take, List.length_drop, List.length_drop] at this
        omega
       ·cases h
     ·cases h
theorem qar (s : List UInt8) (x : Nd) (hn : x.kind = 8 → 0 ≤ x.n ∧ x.n ≤ 9) : vt s.length (zi s x) := by
 refine ⟨fun p c had j hc hp h => ?_, fun p j had hc _ _ => hc, fun g h => ?_, fun g h => (by cases h), fun p j had g _ => rfl, fun p had j g _ _ _ h => (by cases h), fun p c had qw _ _ _ h => ?_⟩
 ·simp only [zi] at h
  split at h
  ·rw [Bool.and_eq_true, decide_eq_true_iff, decide_eq_true_iff] at h
   exact h
  ·split at h
   ·rename_i w hw
    rw [decide_eq_true_iff] at h
    have := qdQ hc hp hw
    omega
   ·cases h
 ·simp only [zi, Bool.and_eq_true, decide_eq_true_iff, Bool.false_eq_true, or_false] at h
  have := hn h.1
  omega
 ·funext j
  simp only [zi]
  split
  ·rfl
  ·have e : zE s x p had = zE s x p qw := by
    unfold zE
    by_cases h8 : x.kind = 8
    ·rw [h x.n.toNat (by simp [zi, h8])]
    ·rw [if_neg h8, if_neg h8]
   rw [e]
theorem WJ {n N : Nat} {A : Sem} (hN : N < 10) (h : vt n A) : vt n (ke N A) := by
 refine ⟨fun p c had j hc hp he => h.le p 0 had j hc hp he, fun p j had hc h1 h2 => fun g a b e => ?_, fun g hg => ?_, fun g hg => ?_, fun p j had g hg => ?_, fun p had j g hc hp he hg => ?_, fun p c had qw hc kZ hp ha => ?_⟩
 ·simp only [ke] at e
  split at e
  ·cases e; exact ⟨h1, h2⟩
  ·exact h.leave_cap hc h1 h2 g a b e
 ·simp only [ke, Bool.or_eq_true, decide_eq_true_iff] at hg
  rcases hg with q | q | q
  ·exact h.ten g (.inl q)
  ·exact h.ten g (.inr q)
  ·omega
 ·simp only [ke, Bool.or_eq_true, decide_eq_true_iff] at hg ⊢
  rcases hg with q | q
  ·exact .inl (h.sub g q)
  ·exact .inr q
 ·simp only [ke, Bool.or_eq_false_iff, decide_eq_false_iff_not] at hg
  simp only [ke]
  rw [if_neg hg.2]
  exact h.leave_keep hg.1
 ·simp only [ke]
  split
  ·rfl
  ·rename_i hgN
   simp only [ke, Bool.or_eq_true, decide_eq_true_iff] at hg
   rcases hg with q | q
   ·refine h.leave_has (hc.only _) hp ?_ q
    rw [h.ask p 0 _ had (hc.only _) hc hp (fun i hi => by unfold qP; rw [if_pos hi])]
    exact he
   ·exact absurd q hgN
 ·funext j
  exact congrFun (h.ask p 0 had qw hc kZ hp ha) j
theorem qdH {n : Nat} {A B : Sem} (hA : vt n A) (hB : vt n B) : vt n (kP A B) := by
 refine ⟨fun p c had j hc hp he => ?_, fun p j had hc h1 h2 => ?_, fun g hg => ?_, fun g hg => ?_, fun p j had g hg => ?_, fun p had j g hc hp he hg => ?_, fun p c had qw hc kZ hp ha => ?_⟩
 ·simp only [kP, Bool.or_eq_true] at he
  rcases he with q | q
  ·exact hA.le p 0 had j hc hp q
  ·exact hB.le p 0 had j hc hp q
 ·simp only [kP]
  split
  ·exact hA.leave_cap hc h1 h2
  ·exact hB.leave_cap hc h1 h2
 ·simp only [kP, Bool.or_eq_true] at hg
  rcases hg with (q | q) | (q | q)
  ·exact hA.ten g (.inl q)
  ·exact hB.ten g (.inl q)
  ·exact hA.ten g (.inr q)
  ·exact hB.ten g (.inr q)
 ·simp only [kP, Bool.and_eq_true, Bool.or_eq_true] at hg ⊢
  exact .inl (hA.sub g hg.1)
 ·simp only [kP, Bool.or_eq_false_iff] at hg
  simp only [kP]
  by_cases q : A.ends p 0 had j = true
  ·rw [if_pos q]; exact hA.leave_keep hg.1
  ·rw [if_neg q]; exact hB.leave_keep hg.2
 ·simp only [kP, Bool.and_eq_true, Bool.or_eq_true] at hg he
  obtain ⟨vu, hh1⟩ : ∃ c, c = qP had (kP A B).asked := ⟨_, rfl⟩
  have yp : qo n vu := by rw [hh1]; exact hc.only _
  have hs : ∀ g, (kP A B).asked g = true → vu g = had g := fun i hi => by rw [hh1]; unfold qP; rw [if_pos hi]
  have eA := hA.ask p 0 vu had yp hc hp (fun g hg => hs g (by simp [kP, hg]))
  have eB := hB.ask p 0 vu had yp hc hp (fun g hg => hs g (by simp [kP, hg]))
  rw [← hh1]
  simp only [kP]
  by_cases q : A.ends p 0 vu j = true
  ·rw [if_pos q]; exact hA.leave_has yp hp q hg.1
  ·rw [if_neg q]
   rcases he with r | r
   ·rw [eA] at q; exact absurd r q
   ·exact hB.leave_has yp hp (by rw [eB]; exact r) hg.2
 ·funext j
  simp only [kP]
  rw [hA.ask p 0 had qw hc kZ hp (fun g hg => ha g (by simp [kP, hg])), hB.ask p 0 had qw hc kZ hp (fun g hg => ha g (by simp [kP, hg]))]
theorem JU {n : Nat} {A B : Sem} (hA : vt n A) (hB : vt n B) {p j k : Nat} {had qw : Cp} (hc : qo n had) (kZ : qo n qw) (hp : p ≤ n) (ha : ∀ g, A.asked g = true → had g = qw g) (hb : ∀ g, B.asked g = true → A.always g = false → had g = qw g) : kf A B p j had k = kf A B p j qw k := by
 unfold kf
 rw [← hA.ask p 0 had qw hc kZ hp ha]
 cases he : A.ends p 0 had k with
 | false => rfl
 | true =>
  have hl := hA.le p 0 had k hc hp he
  rw [hB.ask k 0 _ _ (hA.left_cap hc hl.1 hl.2) (hA.left_cap kZ hl.1 hl.2) hl.2 (hA.left_ask (fun g hg => hB.ten g (.inl hg)) hc hp he ha hb)]
theorem qdI {s : List UInt8} {A B : Sem} (hA : vt s.length A) (hB : vt s.length B) : vt s.length (jm s A B) := by
 have qdS : ∀ {had qw : Cp}, (∀ g, (jm s A B).asked g = true → had g = qw g) → (∀ g, A.asked g = true → had g = qw g) ∧ (∀ g, B.asked g = true → A.always g = false → had g = qw g) := fun ha => ⟨fun g hg => ha g (by simp [jm, hg]), fun g hg h2 => ha g (by simp [jm, hg, h2])⟩
 refine ⟨fun p c had j hc hp he => ?_, fun p j had hc h1 h2 => ?_, fun g hg => ?_, fun g hg => ?_, fun p j had g hg => ?_, fun p had j g hc hp he hg => ?_, fun p c had qw hc kZ hp ha => ?_⟩
 ·simp only [jm] at he
  obtain ⟨k, k1, k2, k3⟩ := qF.1 he
  unfold kf at k3
  rw [Bool.and_eq_true] at k3
  have q := hB.le k 0 _ j (hA.left_cap hc k1 k2) k2 k3.2
  exact ⟨by omega, q.2⟩
 ·simp only [jm]
  cases hk : greatest p (kf A B p j had) j with
  | none => exact hc
  | some k =>
   have := qL hk
   exact hB.leave_cap (hA.leave_cap hc this.1 (by omega)) this.2.1 h2
 ·simp only [jm, Bool.or_eq_true, Bool.and_eq_true] at hg
  rcases hg with (q | q) | (q | q)
  ·exact hA.ten g (.inl q)
  ·exact hB.ten g (.inl q.1)
  ·exact hA.ten g (.inr q)
  ·exact hB.ten g (.inr q)
 ·simp only [jm, Bool.or_eq_true] at hg ⊢
  rcases hg with q | q
  ·exact .inl (hA.sub g q)
  ·exact .inr (hB.sub g q)
 ·simp only [jm, Bool.or_eq_false_iff] at hg
  simp only [jm]
  cases hk : greatest p (kf A B p j had) j with
  | none => rfl
  | some k =>
   show B.leave k j (A.leave p k had) g = had g
   rw [hB.leave_keep hg.2, hA.leave_keep hg.1]
 ·simp only [jm] at he
  obtain ⟨k0, k1, k2, k3⟩ := qF.1 he
  obtain ⟨vu, hh1⟩ : ∃ c, c = qP had (jm s A B).asked := ⟨_, rfl⟩
  have yp : qo s.length vu := by rw [hh1]; exact hc.only _
  have vb : ∀ g, (jm s A B).asked g = true → vu g = had g := fun i hi => by
   rw [hh1]; unfold qP; rw [if_pos hi]
  obtain ⟨ha, hb⟩ := qdS vb
  have hK : ∀ k, kf A B p j vu k = kf A B p j had k := fun k => JU hA hB yp hc hp ha hb
  rw [← hh1]
  have Jl : k0 ≤ j := by
   have q := k3
   unfold kf at q
   rw [Bool.and_eq_true] at q
   exact (hB.le k0 0 _ j (hA.left_cap hc k1 k2) k2 q.2).1
  have e : (jm s A B).walk p j vu = match greatest p (kf A B p j vu) j with | some k => B.leave k j (A.leave p k vu) | none => vu := rfl
  rw [e]
  cases QD : greatest p (kf A B p j vu) j with
  | none =>
   have := jb QD k0 k1 Jl
   rw [hK, k3] at this
   cases this
  | some k =>
   obtain ⟨q1, q2, q3⟩ := qL QD
   have WK : k ≤ s.length := by
    have q := q3
    unfold kf at q
    rw [Bool.and_eq_true] at q
    exact (hA.le p 0 vu k yp hp q.1).2
   unfold kf at q3
   rw [Bool.and_eq_true] at q3
   simp only [jm, Bool.or_eq_true] at hg
   simp only
   have hcA : qo s.length (A.leave p k vu) := hA.leave_cap yp q1 WK
   by_cases r : A.always g = true
   ·exact vR (hA.leave_has yp hp q3.1 r)
   ·rcases hg with hg | hg
    ·exact absurd hg r
    ·refine hB.leave_has hcA WK ?_ hg
     rw [hB.ask k 0 _ (qW A B.asked p vu k) hcA (hA.left_cap yp q1 WK) WK (fun i hi => ?_)]
     ·exact q3.2
     ·unfold qW
      split
      ·rename_i hd
       have Xg : A.ever i = false := by
        cases hz : A.ever i with
        | false => rfl
        | true => exact absurd ⟨hz, hi⟩ (Z5.1 hd i (hB.ten i (.inl hi)))
       exact hA.leave_keep Xg
      ·rfl
 ·funext j
  simp only [jm]
  obtain ⟨h1, h2⟩ := qdS ha
  exact yX fun k _ _ => JU hA hB hc kZ hp h1 h2
theorem yy {a b : Nat} {f : Nat → Bool} (h : b < a) : zZ a b f = false := by
 cases hq : zZ a b f with
 | false => rfl
 | true => obtain ⟨k, h1, h2, _⟩ := qF.1 hq; omega
theorem JY {s : List UInt8} {A : Sem} {m M : Int} {j : Nat} : ∀ (f f' p c : Nat) (had : Cp), s.length ≤ f + p → s.length ≤ f' + p → zc s A m M f p c had j = zc s A m M f' p c had j
 | 0, 0, p, c, had, _, _ => rfl
 | 0, f' + 1, p, c, had, h, _ => by rw [zc, zc, yy (by omega)]; simp
 | f + 1, 0, p, c, had, _, h => by rw [zc, zc, yy (by omega)]; simp
 | f + 1, f' + 1, p, c, had, h, h' => by
  rw [zc, zc]
  congr 2
  exact yX fun k k1 _ => by rw [JY f f' k _ _ (by omega) (by omega)]
theorem ZF {s : List UInt8} {A : Sem} (hA : vt s.length A) {m M : Int} : ∀ (f p c : Nat) (had : Cp) (j : Nat), qo s.length had → p ≤ s.length → zc s A m M f p c had j = true → p ≤ j ∧ j ≤ s.length
 | 0, p, c, had, j, hc, hp, h => by
  rw [zc, Bool.and_eq_true, decide_eq_true_iff] at h
  omega
 | f + 1, p, c, had, j, hc, hp, h => by
  rw [zc, Bool.or_eq_true, Bool.and_eq_true, Bool.and_eq_true, decide_eq_true_iff] at h
  rcases h with h | h
  ·omega
  ·obtain ⟨k, k1, k2, k3⟩ := qF.1 h.2
   rw [Bool.and_eq_true] at k3
   have := ZF hA f k _ _ j (hA.left_cap hc (by omega) k2) k2 k3.2
   omega
theorem Za {s : List UInt8} {A : Sem} (hA : vt s.length A) {m M : Int} {j : Nat} : ∀ (f p c : Nat) (had qw : Cp), qo s.length had → qo s.length qw → p ≤ s.length → (∀ g, A.asked g = true → had g = qw g) → zc s A m M f p c had j = zc s A m M f p c qw j
 | 0, p, c, had, qw, hc, kZ, hp, ha => by rw [zc, zc, hA.ask p 0 had qw hc kZ hp ha]
 | f + 1, p, c, had, qw, hc, kZ, hp, ha => by
  rw [zc, zc, hA.ask p 0 had qw hc kZ hp ha]
  congr 2
  refine yX fun k k1 k2 => ?_
  cases he : A.ends p 0 qw k with
  | false => rfl
  | true =>
   have he2 : A.ends p 0 had k = true := by rw [hA.ask p 0 had qw hc kZ hp ha]; exact he
   rw [Za hA f k _ _ _ (hA.left_cap hc (by omega) k2) (hA.left_cap kZ (by omega) k2) k2 (hA.left_ask (fun g hg => hA.ten g (.inl hg)) hc hp he2 ha (fun g hg _ => ha g hg))]
theorem qas {s : List UInt8} {A : Sem} (hA : vt s.length A) {m M : Int} {j : Nat} (hj : j ≤ s.length) : ∀ (f p c : Nat) (had : Cp), qo s.length had → qo s.length (zK s A m M f p c had j)
 | 0, p, c, had, hc => by
  rw [zK]
  split
  ·exact hA.leave_cap hc (Nat.le_refl _) hj
  ·exact hc
 | f + 1, p, c, had, hc => by
  rw [zK]
  split
  ·split
   ·rename_i k hk
    have := qL hk
    exact qas hA hj f k _ _ (hA.leave_cap hc (by omega) (by omega))
   ·split
    ·exact hA.leave_cap hc (Nat.le_refl _) hj
    ·exact hc
  ·split
   ·exact hA.leave_cap hc (Nat.le_refl _) hj
   ·exact hc
theorem WL {s : List UInt8} {A : Sem} (hA : vt s.length A) {m M : Int} {j g : Nat} (hg : A.ever g = false) : ∀ (f p c : Nat) (had : Cp), zK s A m M f p c had j g = had g
 | 0, p, c, had => by
  rw [zK]
  split
  ·exact hA.leave_keep hg
  ·rfl
 | f + 1, p, c, had => by
  rw [zK]
  by_cases Jb : p < j
  ·rw [if_pos Jb]
   generalize greatest (p + 1) _ j = o
   cases o with
   | some k =>
    show zK s A m M f k (qO m M c) (A.leave p k had) j g = had g
    rw [WL hA hg f, hA.leave_keep hg]
   | none =>
    show (if (c : Int) < m then A.leave j j had else had) g = had g
    by_cases Vv : (c : Int) < m
    ·rw [if_pos Vv]; exact hA.leave_keep hg
    ·rw [if_neg Vv]
  ·rw [if_neg Jb]
   by_cases Vv : (c : Int) < m
   ·rw [if_pos Vv]; exact hA.leave_keep hg
   ·rw [if_neg Vv]
theorem WM {s : List UInt8} {A : Sem} {m M : Int} {j g : Nat} : ∀ (f p c : Nat) (had : Cp), (had g).isSome = true → (zK s A m M f p c had j g).isSome = true
 | 0, p, c, had, h => by
  rw [zK]
  split
  ·exact vR h
  ·exact h
 | f + 1, p, c, had, h => by
  rw [zK]
  by_cases Jb : p < j
  ·rw [if_pos Jb]
   generalize greatest (p + 1) _ j = o
   cases o with
   | some k =>
    show (zK s A m M f k (qO m M c) (A.leave p k had) j g).isSome = true
    exact WM f _ _ _ (vR h)
   | none =>
    show ((if (c : Int) < m then A.leave j j had else had) g).isSome = true
    by_cases Vv : (c : Int) < m
    ·rw [if_pos Vv]; exact vR h
    ·rw [if_neg Vv]; exact h
  ·rw [if_neg Jb]
   by_cases Vv : (c : Int) < m
   ·rw [if_pos Vv]; exact vR h
   ·rw [if_neg Vv]; exact h
theorem qdT {s : List UInt8} {F : Nat → Bool} {m M : Int} : ∀ (f p c j : Nat), p ≤ s.length → kg s F m M f p c j = true → p ≤ j ∧ j ≤ s.length
 | 0, p, c, j, hp, h => by
  rw [kg, Bool.and_eq_true, decide_eq_true_iff, decide_eq_true_iff] at h
  omega
 | f + 1, p, c, j, hp, h => by
  rw [kg, Bool.or_eq_true, Bool.and_eq_true, Bool.and_eq_true, Bool.and_eq_true, decide_eq_true_iff, decide_eq_true_iff] at h
  rcases h with h | h
  ·omega
  ·have hs : p < s.length := by
    have q := h.1.2
    split at q
    ·rename_i b hb; exact (List.getElem?_eq_some_iff.1 hb).1
    ·cases q
   have := qdT f (p + 1) (c + 1) j (by omega) h.2
   omega
theorem JV {s : List UInt8} {A : Sem} (hA : vt s.length A) {m M : Int} (hm : 0 ≤ m) {F : Option (Nat → Bool)} (hF : F.isSome = true → ∀ g, A.always g = false) : vt s.length (jR s m M F A) := by
 refine ⟨fun p c had j hc hp he => ?_, fun p j had hc h1 h2 => qas hA h2 _ _ _ _ hc, fun g hg => hA.ten g hg, fun g hg => ?_, fun p j had g hg => WL hA hg _ _ _ _, fun p had j g hc hp he hg => ?_, fun p c had qw hc kZ hp ha => ?_⟩
 ·cases F with
  | none => exact ZF hA _ _ _ _ _ hc hp he
  | some F => exact qdT _ _ _ _ hp he
 ·simp only [jR] at hg ⊢
  split at hg
  ·cases hg
  ·exact hA.sub g hg
 ·simp only [jR] at hg
  split at hg
  ·cases hg
  ·rename_i hm0
   cases F with
   | some F =>
    have := hF rfl g
    rw [hg] at this; cases this
   | none =>
    obtain ⟨vu, hh1⟩ : ∃ c, c = qP had A.asked := ⟨_, rfl⟩
    have yp : qo s.length vu := by rw [hh1]; exact hc.only _
    have vb : ∀ g, A.asked g = true → vu g = had g := fun i hi => by rw [hh1]; unfold qP; rw [if_pos hi]
    have he1 : zc s A m M (s.length - p) p 0 vu j = true := by
     rw [Za hA _ _ _ vu had yp hc hp vb]; exact he
    have hl := ZF hA _ _ _ _ _ yp hp he1
    show (zK s A m M (j - p) p 0 (qP had A.asked) j g).isSome = true
    rw [← hh1]
    rcases Nat.lt_or_ge p j with q | q
    ·obtain ⟨f, hf⟩ : ∃ f, j - p = f + 1 := ⟨j - p - 1, by omega⟩
     obtain ⟨f2, hf2⟩ : ∃ f, s.length - p = f + 1 := ⟨s.length - p - 1, by omega⟩
     rw [hf2, zc, Bool.or_eq_true, Bool.and_eq_true, Bool.and_eq_true, decide_eq_true_iff] at he1
     rw [hf, zK, if_pos q]
     rcases he1 with r | r
     ·omega
     ·obtain ⟨k, k1, k2, k3⟩ := qF.1 r.2
      rw [Bool.and_eq_true] at k3
      have Jl := (ZF hA _ _ _ _ _ (hA.left_cap yp (by omega) k2) k2 k3.2).1
      cases QD : greatest (p + 1) (fun k => A.ends p 0 vu k && zc s A m M (s.length - k) k (qO m M 0) (qW A A.asked p vu k) j) j with
      | none =>
       have := jb QD k k1 Jl
       simp only [k3.1, Bool.true_and] at this
       rw [JY (s.length - k) f2 k _ _ (by omega) (by omega), k3.2] at this
       cases this
      | some k' =>
       have h3 := qL QD
       simp only [Bool.and_eq_true] at h3
       exact WM _ _ _ _ (hA.leave_has yp hp h3.2.2.1 hg)
    ·obtain rfl : p = j := by omega
     have he0 : A.ends p 0 vu p = true := by
      cases hf2 : s.length - p with
      | zero =>
       rw [hf2, zc, Bool.and_eq_true, Bool.or_eq_true, decide_eq_true_iff, decide_eq_true_iff] at he1
       rcases he1.2 with r | r
       ·omega
       ·exact r
      | succ f2 =>
       rw [hf2, zc, Bool.or_eq_true, Bool.and_eq_true, Bool.or_eq_true, Bool.and_eq_true, decide_eq_true_iff, decide_eq_true_iff] at he1
       rcases he1 with r | r
       ·rcases r.2 with r | r
        ·omega
        ·exact r
       ·obtain ⟨k, k1, k2, k3⟩ := qF.1 r.2
        rw [Bool.and_eq_true] at k3
        have := (ZF hA _ _ _ _ _ (hA.left_cap yp (by omega) k2) k2 k3.2).1
        omega
     rw [Nat.sub_self, zK, if_pos (by omega)]
     exact hA.leave_has yp hp he0 hg
 ·funext j
  cases F with
  | none => exact Za hA _ _ _ _ _ hc kZ hp ha
  | some F => rfl
def Wy : T → Prop
 | .leaf x => x.kind = 8 → 0 ≤ x.n ∧ x.n ≤ 9
 | .two _ a b => Wy a ∧ Wy b
 | .times m _ t => 0 ≤ m ∧ Wy t
 | .group n t => n.toNat < 10 ∧ Wy t
theorem zw (s : List UInt8) : ∀ t : T, Wy t → vt s.length (qd s t)
 | .leaf x, h => qar s x h
 | .two k a b, h => by
  unfold qd
  split
  ·exact qdI (zw s a h.1) (zw s b h.2)
  ·exact qdH (zw s a h.1) (zw s b h.2)
 | .times m M t, h => by
  refine JV (zw s t h.2) h.1 (fun hf g => ?_)
  cases t with
  | leaf x => rfl
  | two _ _ _ => cases hf
  | times _ _ _ => cases hf
  | group _ _ => cases hf
 | .group n t, h => WJ h.1 (zw s t h.2)
theorem Xh (t : T) : (loosen t).isBytes = t.isBytes := by
 cases t with
 | leaf x =>
  unfold loosen
  split
  ·rename_i h
   simp [T.isBytes, h]
  ·rfl
 | two _ _ _ => rfl
 | times _ _ _ => rfl
 | group _ _ => rfl
theorem Yh {a b : Nat} {f g : Nat → Bool} (h : ∀ k, a ≤ k → k ≤ b → f k = true → g k = true) (hf : zZ a b f = true) : zZ a b g = true := by
 obtain ⟨k, h1, h2, h3⟩ := qF.1 hf
 exact qF.2 ⟨k, h1, h2, h k h1 h2 h3⟩
theorem Yi {s : List UInt8} {A B : Sem} {m M : Int} {j : Nat} (hA : vt s.length A) (h : ∀ p c had qw j, qo s.length had → p ≤ s.length → A.ends p c had j = true → B.ends p c qw j = true) : ∀ (f p c : Nat) (had qw : Cp), qo s.length had → p ≤ s.length → zc s A m M f p c had j = true → zc s B m M f p c qw j = true
 | 0, p, c, had, qw, hc, hp, he => by
  rw [zc, Bool.and_eq_true, Bool.or_eq_true] at he ⊢
  exact ⟨he.1, he.2.imp id (fun q => h p 0 had qw p hc hp q)⟩
 | f + 1, p, c, had, qw, hc, hp, he => by
  rw [zc, Bool.or_eq_true, Bool.and_eq_true, Bool.or_eq_true, Bool.and_eq_true] at he ⊢
  rcases he with q | q
  ·exact .inl ⟨q.1, q.2.imp id (fun r => h p 0 had qw p hc hp r)⟩
  ·refine .inr ⟨q.1, Yh (fun k k1 k2 k3 => ?_) q.2⟩
   rw [Bool.and_eq_true] at k3 ⊢
   exact ⟨h p 0 had qw k hc hp k3.1, Yi hA h f k _ _ _ (hA.left_cap hc (by omega) k2) k2 k3.2⟩
theorem jU (s : List UInt8) : ∀ t : T, Wy t → ∀ (p c : Nat) (had qw : Cp) (j : Nat), qo s.length had → p ≤ s.length → (qd s t).ends p c had j = true → (qd s (loosen t)).ends p c qw j = true
 | .leaf x, hm, p, c, had, qw, j, hc, hp, he => by
  unfold loosen
  split
  ·have := (qar s x hm).le p c had j hc hp he
   simp [qd, zi, this.1, this.2]
  ·rename_i h8
   have e : zE s x p had = zE s x p qw := by
    unfold zE
    rw [if_neg h8, if_neg h8]
   simp only [qd, zi] at he ⊢
   rw [← e]
   exact he
 | .two k a b, hm, p, c, had, qw, j, hc, hp, he => by
  unfold loosen
  simp only [qd] at he ⊢
  split at he
  ·rename_i hk
   rw [if_pos hk]
   simp only [jm] at he ⊢
   refine Yh (fun i i1 i2 i3 => ?_) he
   unfold kf at i3 ⊢
   rw [Bool.and_eq_true] at i3 ⊢
   exact ⟨jU s a hm.1 p 0 had qw i hc hp i3.1, jU s b hm.2 i 0 _ _ j ((zw s a hm.1).left_cap hc i1 i2) i2 i3.2⟩
  ·rename_i hk
   rw [if_neg hk]
   simp only [kP, Bool.or_eq_true] at he ⊢
   exact he.imp (jU s a hm.1 p 0 had qw j hc hp) (jU s b hm.2 p 0 had qw j hc hp)
 | .times m M t, hm, p, c, had, qw, j, hc, hp, he => by
  unfold loosen
  simp only [qd, jR, Xh] at he ⊢
  cases hb : t.isBytes with
  | some F => rw [hb] at he; exact he
  | none =>
   rw [hb] at he
   exact Yi (zw s t hm.2) (fun p c had qw j hc hp h => jU s t hm.2 p c had qw j hc hp h) _ _ _ _ _ hc hp he
 | .group n t, hm, p, c, had, qw, j, hc, hp, he => jU s t hm.2 p 0 had qw j hc hp he
theorem yz : ∀ t : T, Wy t → Wy (loosen t)
 | .leaf x, h => by
  unfold loosen
  split
  ·intro h8
   exact absurd h8 (by decide)
  ·exact h
 | .two k a b, h => ⟨yz a h.1, yz b h.2⟩
 | .times m M t, h => ⟨h.1, yz t h.2⟩
 | .group n t, h => ⟨h.1, yz t h.2⟩
theorem ve (s : List UInt8) : ∀ (t : T) (g : Nat), (qd s (loosen t)).asked g = false
 | .leaf x, g => by
  unfold loosen
  split
  ·simp [qd, zi]
  ·rename_i h8
   simp [qd, zi, h8]
 | .two k a b, g => by
  have ha := ve s a g
  have hb := ve s b g
  unfold loosen
  simp only [qd]
  split
  ·simp [jm, ha, hb]
  ·simp [kP, ha, hb]
 | .times m M t, g => ve s t g
 | .group n t, g => ve s t g
end Go.Proofs.YtjgegohidhdbpaaGreatDoor
