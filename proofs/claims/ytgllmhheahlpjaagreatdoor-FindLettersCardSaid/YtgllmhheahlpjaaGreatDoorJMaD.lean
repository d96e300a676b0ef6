/- A set of places in memory: upTo. -/
import Derived.Test.YtgllmhheahlpjaaGreatDoorJMbB
import Derived.Test.YtgllmhheahlpjaaGreatDoorJShelf
import Derived.Test.YtgllmhheahlpjaaGreatDoorJRxTj
set_option linter.unusedVariables false
set_option linter.unusedSimpArgs false
set_option maxRecDepth 100000
set_option maxHeartbeats 40000000
namespace Go.Proofs.YtgllmhheahlpjaaGreatDoor
open Go.RowKit
theorem upto_neg (v : Value) (p : Int) (hp : p < 0) (w : World) :
  Calls Tryz.prog 52 #[v, .int .i64 p] w fun e w' => e = .returned (.int .i64 (-1)) ∧ w' = w := by
 go_enter Tryz.func52, Tryz.ntmps52
 go_wp2
 go_ret
 exact ⟨rfl, rfl⟩
theorem upto_m (b cap n p : Nat) (f : Nat → Bool) (hn : n ≤ 16777216) (hp : p / 64 < n) (w : World) (h : PRow w b n f) :
  Calls Tryz.prog 52 #[.slice (some ⟨b, 0, none⟩) n cap, .int .i64 p] w fun e w' => (∃ r, e = .returned (.int .i64 r) ∧ IsTo f p r) ∧ w' = w := by
 have h00 : ∀ i, 64 * (p / 64 + 1) ≤ i → i ≤ p → f i = false := fun i h1 h2 => by omega
 have H0 := Lib.hid h00
 clear h00
 obtain ⟨q, hq⟩ : ∃ q, q = p / 64 := ⟨_, rfl⟩
 obtain ⟨r, hr⟩ : ∃ r, r = p % 64 := ⟨_, rfl⟩
 have hr64 : r < 64 := by omega
 have e1 : (p : Int) / 64 = (q : Int) := by omega
 have e2 : (p : Int) % 64 = (r : Int) := by omega
 have e3 : (63 : Int) - (r : Int) = ((63 - r : Nat) : Int) := by omega
 have hpq : 64 * q ≤ p ∧ p < 64 * (q + 1) := by omega
 have hqn : q < n := by omega
 have HQ := Lib.hid hq; have HR := Lib.hid hr
 clear hq hr hp
 go_enter Tryz.func52, Tryz.ntmps52
 go_wp2
 go_loopw [5] (fun i wr => ∃ k : Nat, k ≤ q + 1 ∧ i = .int .i64 ((k : Int) - 1) ∧ (∀ i, 64 * k ≤ i → i ≤ p → f i = false) ∧ wr = w) (fun i _ => (RowKit.intOf i + 1).toNat)
 case atStart =>
  exact ⟨q + 1, by omega, by simp, by rw [HQ.out]; exact H0.out, rfl⟩
 case round =>
  obtain ⟨k, hk, rfl, hb, rfl⟩ := hrel
  have HB := Lib.hid hb
  clear hb
  by_cases hlt : 0 < k
  ·obtain ⟨m, rfl⟩ : ∃ m, k = m + 1 := ⟨k - 1, by omega⟩
   have ek : (((m + 1 : Nat) : Int)) - 1 = (m : Int) := by omega
   rw [ek]
   clear ek
   have c1 := h.cell m (by omega)
   obtain ⟨x, hx⟩ : ∃ x, x = wd (fun i => f i && decide (i ≤ p)) m := ⟨_, rfl⟩
   have HX := Lib.hid hx
   have hxl : x < 18446744073709551616 := by rw [hx]; exact wd_lt _ _
   have HM : x = 0 → ∀ i, 64 * m ≤ i → i ≤ p → f i = false := fun e => to_miss HB.out (by rw [← hx]; exact e)
   have HH : x ≠ 0 → IsTo f p (64 * (m : Int) + (Lib.bitLen x : Int) - 1) := fun e => by rw [hx]; exact to_hit HB.out (by rw [← hx]; exact e)
   have hct : x ≠ 0 → Lib.bitLen x ≤ 64 := fun e => by
    obtain ⟨r, h0, h1, _⟩ := wd_last (f := fun i => f i && decide (i ≤ p)) (k := m) (by rw [← hx]; exact e)
    rw [← hx] at h0
    omega
   have HM := Lib.hid HM; have HH := Lib.hid HH
   by_cases hkq : m = q
   ·subst hkq
    have hm := to_bits f p
    rw [← HQ.out, ← HR.out, ← hx] at hm
    clear hx
    generalize wd f m = y at *
    by_cases hx0 : x = 0
    ·subst hx0
     go_wp2
     go_roundw
     case rel => exact ⟨m, by omega, rfl, HM.out rfl, trivial⟩
     case measure => (simp [RowKit.intOf]) <;> omega
    ·have HT := Lib.hid (Tryz.bits_Len64 (x : Int) wr (by omega) (by omega))
     have hct' := hct hx0
     have hxz : ((x : Int) != 0) = true := by simpa using hx0
     have HR := Lib.hid (HH.out hx0)
     clear HH HM hct
     rw [Int.toNat_natCast] at HT
     generalize Lib.bitLen x = z at *
     go_wp2_with fail
     refine HT.out.mono ?_
     rintro e w1 ⟨rfl, rfl⟩
     go_wp2
     go_ret
     exact ⟨⟨_, rfl, HR.out⟩, rfl⟩
   ·have hab := wd_below (f := f) (p := p) (k := m) (by omega)
    rw [← hx] at hab
    rw [← hab] at c1
    have hkq' : ((m : Int) == (q : Int)) = false := by rw [beq_eq_false_iff_ne]; omega
    clear hab hx
    by_cases hx0 : x = 0
    ·subst hx0
     go_wp2
     go_roundw
     case rel => exact ⟨m, by omega, rfl, HM.out rfl, trivial⟩
     case measure => (simp [RowKit.intOf]) <;> omega
    ·have HT := Lib.hid (Tryz.bits_Len64 (x : Int) wr (by omega) (by omega))
     have hct' := hct hx0
     have hxz : ((x : Int) != 0) = true := by simpa using hx0
     have HR := Lib.hid (HH.out hx0)
     clear HH HM hct
     rw [Int.toNat_natCast] at HT
     generalize Lib.bitLen x = z at *
     go_wp2_with fail
     refine HT.out.mono ?_
     rintro e w1 ⟨rfl, rfl⟩
     go_wp2
     go_ret
     exact ⟨⟨_, rfl, HR.out⟩, rfl⟩
  ·obtain rfl : k = 0 := by omega
   have hend : IsTo f p (-1) := .inl ⟨rfl, fun i hi => HB.out i (by omega) (by omega)⟩
   go_wp2
   go_ret
   exact ⟨⟨_, rfl, hend⟩, rfl⟩
end Go.Proofs.YtgllmhheahlpjaaGreatDoor
namespace Go.Proofs.YtgllmhheahlpjaaGreatDoor
open Go.RowKit Go.Lib
abbrev Cp := Nat → Option (Nat × Nat)
abbrev Gs := Nat → Bool
def onlyC (c : Cp) (g : Gs) : Cp := fun i => if g i then c i else none
def overC (c d : Cp) : Cp := fun i => if (d i).isSome then d i else c i
def disj (a b : Gs) : Bool := (List.range 10).all fun g => !(a g && b g)
def noG (a : Gs) : Bool := (List.range 10).all fun g => !a g
def anyR (a b : Nat) (f : Nat → Bool) : Bool := (List.range (b + 1)).any fun k => decide (a ≤ k) && f k
def greatest (a : Nat) (f : Nat → Bool) : Nat → Option Nat
 | 0 => if a = 0 ∧ f 0 = true then some 0 else none
 | b + 1 => if a ≤ b + 1 ∧ f (b + 1) = true then some (b + 1) else greatest a f b
structure Sem where
 asked : Gs
 always : Gs
 ever : Gs
 ends : Nat → Nat → Cp → Nat → Bool
 walk : Nat → Nat → Cp → Cp
def Sem.leave (S : Sem) (p j : Nat) (had : Cp) : Cp := if noG S.ever then had else overC had (S.walk p j (onlyC had S.asked))
def leftS (A : Sem) (asked : Gs) (p : Nat) (had : Cp) (k : Nat) : Cp := if disj A.ever asked then had else A.leave p k had
def oneMore (m M : Int) (c : Nat) : Nat := if M = -1 then min (c + 1) m.toNat else c + 1
section
variable (s : List UInt8)
def leafE (x : Nd) (p : Nat) (had : Cp) : Option Nat :=
 if x.kind = 0 then some 0
 else if x.kind = 1 then (match s[p]? with | some b => if x.set b.toNat then some 1 else none | none => none)
 else if x.kind = 2 then (if p = 0 then some 0 else none)
 else if x.kind = 3 then (if p = s.length then some 0 else none)
 else if x.kind = 8 then (match had x.n.toNat with
  | none => none
  | some (a, b) => if ((s.drop a).take (b - a)).isPrefixOf (s.drop p) then some (b - a) else none)
 else none
def leafS (x : Nd) : Sem where
 asked := fun g => decide (x.kind = 8) && decide (x.n.toNat = g)
 always := fun _ => false
 ever := fun _ => false
 ends := fun p _ had j => if x.kind = -1 then decide (p ≤ j) && decide (j ≤ s.length) else match leafE s x p had with
  | some w => decide (j = p + w)
  | none => false
 walk := fun _ _ had => had
def groupS (n : Nat) (A : Sem) : Sem where
 asked := A.asked
 always := fun g => A.always g || decide (g = n)
 ever := fun g => A.ever g || decide (g = n)
 ends := fun p _ had j => A.ends p 0 had j
 walk := fun p j had => fun g => if g = n then some (p, j) else A.leave p j had g
def altS (A B : Sem) : Sem where
 asked := fun g => A.asked g || B.asked g
 always := fun g => A.always g && B.always g
 ever := fun g => A.ever g || B.ever g
 ends := fun p _ had j => A.ends p 0 had j || B.ends p 0 had j
 walk := fun p j had => if A.ends p 0 had j then A.leave p j had else B.leave p j had
def catK (A B : Sem) (p j : Nat) (had : Cp) (k : Nat) : Bool := A.ends p 0 had k && B.ends k 0 (leftS A B.asked p had k) j
def catS (A B : Sem) : Sem where
 asked := fun g => A.asked g || (B.asked g && !A.always g)
 always := fun g => A.always g || B.always g
 ever := fun g => A.ever g || B.ever g
 ends := fun p _ had j => anyR p s.length (catK A B p j had)
 walk := fun p j had => match greatest p (catK A B p j had) j with
  | some k => B.leave k j (A.leave p k had)
  | none => had
def runE (F : Nat → Bool) (m M : Int) : Nat → Nat → Nat → Nat → Bool
 | 0, p, c, j => decide (m ≤ c) && decide (j = p)
 | f + 1, p, c, j => (decide (m ≤ c) && decide (j = p)) || (decide ((c : Int) ≠ M) && (match s[p]? with | some b => F b.toNat | none => false) && runE F m M f (p + 1) (c + 1) j)
def agnE (A : Sem) (m M : Int) : Nat → Nat → Nat → Cp → Nat → Bool
 | 0, p, c, had, j => decide (j = p) && (decide (m ≤ c) || A.ends p 0 had p)
 | f + 1, p, c, had, j => (decide (j = p) && (decide (m ≤ c) || A.ends p 0 had p)) ||
  (decide ((c : Int) ≠ M) && anyR (p + 1) s.length fun k => A.ends p 0 had k && agnE A m M f k (oneMore m M c) (leftS A A.asked p had k) j)
def repW (A : Sem) (m M : Int) : Nat → Nat → Nat → Cp → Nat → Cp
 | 0, p, c, had, j => if (c : Int) < m then A.leave j j had else had
 | f + 1, p, c, had, j => if p < j then
   (match greatest (p + 1) (fun k => A.ends p 0 had k && agnE s A m M (s.length - k) k (oneMore m M c) (leftS A A.asked p had k) j) j with
   | some k => repW A m M f k (oneMore m M c) (A.leave p k had) j
   | none => if (c : Int) < m then A.leave j j had else had)
  else if (c : Int) < m then A.leave j j had else had
def T.isBytes : T → Option (Nat → Bool)
 | .leaf x => if x.kind = 1 then some x.set else none
 | _ => none
def timesS (m M : Int) (F : Option (Nat → Bool)) (A : Sem) : Sem where
 asked := A.asked
 always := fun g => if m = 0 then false else A.always g
 ever := A.ever
 ends := fun p c had j => match F with
  | some F => runE s F m M (s.length - p) p 0 j
  | none => agnE s A m M (s.length - p) p c had j
 walk := fun p j had => repW s A m M (j - p) p 0 had j
def semT : T → Sem
 | .leaf x => leafS s x
 | .two k a b => if k = 4 then catS s (semT a) (semT b) else altS (semT a) (semT b)
 | .times m M t => timesS s m M t.isBytes (semT t)
 | .group n t => groupS n.toNat (semT t)
end
def loosen : T → T
 | .leaf x => if x.kind = 8 then .leaf ⟨-1, 0, 0, 0, 0, 0, 0, 0, 0, 0⟩ else .leaf x
 | .two k a b => .two k (loosen a) (loosen b)
 | .times m M t => .times m M (loosen t)
 | .group n t => .group n (loosen t)
/-! What holds of them. -/
theorem anyR_iff {a b : Nat} {f : Nat → Bool} : anyR a b f = true ↔ ∃ k, a ≤ k ∧ k ≤ b ∧ f k = true := by
 unfold anyR
 rw [List.any_eq_true]
 constructor
 ·rintro ⟨k, h1, h2⟩
  rw [Bool.and_eq_true, decide_eq_true_iff] at h2
  exact ⟨k, h2.1, by have := List.mem_range.1 h1; omega, h2.2⟩
 ·rintro ⟨k, h1, h2, h3⟩
  exact ⟨k, List.mem_range.2 (by omega), by rw [h3, Bool.and_true, decide_eq_true_iff]; exact h1⟩
theorem greatest_some {a : Nat} {f : Nat → Bool} : ∀ {b k : Nat}, greatest a f b = some k → a ≤ k ∧ k ≤ b ∧ f k = true
 | 0, k, h => by
  unfold greatest at h
  split at h
  ·rename_i q; cases h; exact ⟨by omega, Nat.le_refl _, q.2⟩
  ·cases h
 | b + 1, k, h => by
  unfold greatest at h
  split at h
  ·rename_i q; cases h; exact ⟨q.1, Nat.le_refl _, q.2⟩
  ·have := greatest_some h; exact ⟨this.1, by omega, this.2.2⟩
theorem greatest_none {a : Nat} {f : Nat → Bool} : ∀ {b : Nat}, greatest a f b = none → ∀ k, a ≤ k → k ≤ b → f k = false
 | 0, h, k, h1, h2 => by
  unfold greatest at h
  split at h
  ·cases h
  ·rename_i q
   obtain rfl : k = 0 := by omega
   cases hf : f 0 with
   | false => rfl
   | true => exact absurd ⟨by omega, hf⟩ q
 | b + 1, h, k, h1, h2 => by
  unfold greatest at h
  split at h
  ·cases h
  ·rename_i q
   rcases Nat.lt_or_ge k (b + 1) with r | r
   ·exact greatest_none h k h1 (by omega)
   ·obtain rfl : k = b + 1 := by omega
    cases hf : f (b + 1) with
    | false => rfl
    | true => exact absurd ⟨h1, hf⟩ q
theorem anyR_congr {a b : Nat} {f g : Nat → Bool} (h : ∀ k, a ≤ k → k ≤ b → f k = g k) : anyR a b f = anyR a b g := by
 rw [Bool.eq_iff_iff, anyR_iff, anyR_iff]
 constructor
 ·rintro ⟨k, h1, h2, h3⟩; exact ⟨k, h1, h2, by rw [← h k h1 h2]; exact h3⟩
 ·rintro ⟨k, h1, h2, h3⟩; exact ⟨k, h1, h2, by rw [h k h1 h2]; exact h3⟩
theorem disj_iff {a b : Gs} : disj a b = true ↔ ∀ g, g < 10 → ¬ (a g = true ∧ b g = true) := by
 unfold disj
 rw [List.all_eq_true]
 constructor
 ·intro h g hg q
  have := h g (List.mem_range.2 hg)
  rw [q.1, q.2] at this
  cases this
 ·intro h g hg
  have := h g (List.mem_range.1 hg)
  rw [Bool.not_eq_true']
  cases ha : a g <;> cases hb : b g <;> simp [ha, hb] at this ⊢
theorem noG_iff {a : Gs} : noG a = true ↔ ∀ g, g < 10 → a g = false := by
 unfold noG
 rw [List.all_eq_true]
 constructor
 ·intro h g hg; simpa using h g (List.mem_range.2 hg)
 ·intro h g hg; simpa using h g (List.mem_range.1 hg)
def CapOk (n : Nat) (c : Cp) : Prop := ∀ g a b, c g = some (a, b) → a ≤ b ∧ b ≤ n
structure SOk (n : Nat) (S : Sem) : Prop where
 le : ∀ p c had j, CapOk n had → p ≤ n → S.ends p c had j = true → p ≤ j ∧ j ≤ n
 cap : ∀ p j had, CapOk n had → p ≤ j → j ≤ n → CapOk n (S.walk p j had)
 ten : ∀ g, (S.asked g = true ∨ S.ever g = true) → g < 10
 sub : ∀ g, S.always g = true → S.ever g = true
 keep : ∀ p j had g, S.ever g = false → S.walk p j had g = had g
 has : ∀ p had j g, CapOk n had → p ≤ n → S.ends p 0 had j = true → S.always g = true → (S.walk p j (onlyC had S.asked) g).isSome = true
 ask : ∀ p c had had', CapOk n had → CapOk n had' → p ≤ n → (∀ g, S.asked g = true → had g = had' g) → S.ends p c had = S.ends p c had'
theorem SOk.leave_keep {n : Nat} {S : Sem} (h : SOk n S) {p j g : Nat} {had : Cp} (hg : S.ever g = false) : S.leave p j had g = had g := by
 unfold Sem.leave
 split
 ·rfl
 ·unfold overC
  rw [h.keep _ _ _ _ hg]
  unfold onlyC
  cases S.asked g with
  | false => rfl
  | true => simp only [if_true]; split <;> rfl
theorem onlyC_congr {had had' : Cp} {G : Gs} (h : ∀ g, G g = true → had g = had' g) : onlyC had G = onlyC had' G := by
 funext g
 unfold onlyC
 split
 ·exact h g ‹_›
 ·rfl
theorem CapOk.only {n : Nat} {c : Cp} (h : CapOk n c) (G : Gs) : CapOk n (onlyC c G) := fun g a b e => by
 unfold onlyC at e
 split at e
 ·exact h g a b e
 ·cases e
theorem CapOk.over {n : Nat} {c d : Cp} (h : CapOk n c) (k : CapOk n d) : CapOk n (overC c d) := fun g a b e => by
 unfold overC at e
 split at e
 ·exact k g a b e
 ·exact h g a b e
section
variable {n : Nat} {S A : Sem} {had had' had0 : Cp} {G : Gs} {p j k g : Nat}
theorem SOk.leave_cap (h : SOk n S) (hc : CapOk n had) (h1 : p ≤ j) (h2 : j ≤ n) : CapOk n (S.leave p j had) := by
 unfold Sem.leave
 split
 ·exact hc
 ·exact hc.over (h.cap p j _ (hc.only _) h1 h2)
theorem SOk.left_cap (h : SOk n S) (hc : CapOk n had) (h1 : p ≤ j) (h2 : j ≤ n) : CapOk n (leftS S G p had j) := by
 unfold leftS
 split
 ·exact hc
 ·exact h.leave_cap hc h1 h2
theorem SOk.leave_ask (h : SOk n S) (hc : CapOk n had) (hp : p ≤ n) (he : S.always g = true → S.ends p 0 had j = true) (ha : ∀ g, S.asked g = true → had g = had' g) (hg : S.always g = true ∨ had g = had' g) : S.leave p j had g = S.leave p j had' g := by
 unfold Sem.leave
 split
 ·rename_i hn
  rcases hg with hg | hg
  ·have h1 := h.sub g hg
   have := noG_iff.1 hn g (h.ten g (.inr h1))
   rw [h1] at this; cases this
  ·exact hg
 ·unfold overC
  rw [onlyC_congr ha]
  rcases hg with hg | hg
  ·have := h.has p had j g hc hp (he hg) hg
   rw [onlyC_congr ha] at this
   rw [if_pos this, if_pos this]
  ·rw [hg]
theorem SOk.left_ask (hA : SOk n A) (hB : ∀ g, G g = true → g < 10) (hc : CapOk n had) (hp : p ≤ n) (he : A.ends p 0 had k = true) (ha : ∀ g, A.asked g = true → had g = had' g) (hb : ∀ g, G g = true → A.always g = false → had g = had' g) : ∀ g, G g = true → leftS A G p had k g = leftS A G p had' k g := by
 intro g hg
 unfold leftS
 split
 ·rename_i hd
  refine hb g hg ?_
  cases hal : A.always g with
  | false => rfl
  | true => exact absurd ⟨hA.sub g hal, hg⟩ (disj_iff.1 hd g (hB g hg))
 ·refine hA.leave_ask hc hp (fun _ => he) ha ?_
  cases hal : A.always g with
  | true => exact .inl rfl
  | false => exact .inr (hb g hg hal)
theorem SOk.leave_has (h : SOk n A) (hc : CapOk n had) (hp : p ≤ n) (he : A.ends p 0 had j = true) (q : A.always g = true) : (A.leave p j had g).isSome = true := by
 unfold Sem.leave
 have hev := h.sub g q
 split
 ·rename_i hn
  have := noG_iff.1 hn g (h.ten g (.inr hev))
  rw [hev] at this; cases this
 ·unfold overC
  have := h.has p had j g hc hp he q
  rw [if_pos this]
  exact this
theorem leave_some (hs : (had g).isSome = true) : (A.leave p j had g).isSome = true := by
 unfold Sem.leave
 split
 ·exact hs
 ·unfold overC
  split
  ·assumption
  ·exact hs
end
theorem leafE_le {s : List UInt8} {x : Nd} {p w : Nat} {had : Cp} (hc : CapOk s.length had) (hp : p ≤ s.length) (h : leafE s x p had = some w) : p + w ≤ s.length := by
 unfold leafE at h
 split at h
 ·cases h; omega
 ·split at h
  ·split at h
   ·rename_i b hb
    have := (List.getElem?_eq_some_iff.1 hb).1
    split at h
    ·cases h; omega
    ·cases h
   ·cases h
  ·split at h
   ·split at h
    ·cases h; omega
    ·cases h
   ·split at h
    ·split at h
     ·cases h; omega
     ·cases h
    ·split at h
     ·split at h
      ·cases h
      ·rename_i a b hab
       split at h
       ·rename_i q
        cases h
        rw [List.isPrefixOf_iff_prefix] at q
        have := q.length_le
        have hh := hc _ _ _ hab
        rw [List.length_take, List.length_drop, List.length_drop] at this
        omega
       ·cases h
     ·cases h
theorem leaf_ok (s : List UInt8) (x : Nd) (hn : x.kind = 8 → 0 ≤ x.n ∧ x.n ≤ 9) : SOk s.length (leafS s x) := by
 refine ⟨fun p c had j hc hp h => ?_, fun p j had hc _ _ => hc, fun g h => ?_, fun g h => (by cases h), fun p j had g _ => rfl, fun p had j g _ _ _ h => (by cases h), fun p c had had' _ _ _ h => ?_⟩
 ·simp only [leafS] at h
  split at h
  ·rw [Bool.and_eq_true, decide_eq_true_iff, decide_eq_true_iff] at h
   exact h
  ·split at h
   ·rename_i w hw
    rw [decide_eq_true_iff] at h
    have := leafE_le hc hp hw
    omega
   ·cases h
 ·simp only [leafS, Bool.and_eq_true, decide_eq_true_iff, Bool.false_eq_true, or_false] at h
  have := hn h.1
  omega
 ·funext j
  simp only [leafS]
  split
  ·rfl
  ·have e : leafE s x p had = leafE s x p had' := by
    unfold leafE
    by_cases h8 : x.kind = 8
    ·rw [h x.n.toNat (by simp [leafS, h8])]
    ·rw [if_neg h8, if_neg h8]
   rw [e]
theorem group_ok {n N : Nat} {A : Sem} (hN : N < 10) (h : SOk n A) : SOk n (groupS N A) := by
 refine ⟨fun p c had j hc hp he => h.le p 0 had j hc hp he, fun p j had hc h1 h2 => fun g a b e => ?_, fun g hg => ?_, fun g hg => ?_, fun p j had g hg => ?_, fun p had j g hc hp he hg => ?_, fun p c had had' hc hc' hp ha => ?_⟩
 ·simp only [groupS] at e
  split at e
  ·cases e; exact ⟨h1, h2⟩
  ·exact h.leave_cap hc h1 h2 g a b e
 ·simp only [groupS, Bool.or_eq_true, decide_eq_true_iff] at hg
  rcases hg with q | q | q
  ·exact h.ten g (.inl q)
  ·exact h.ten g (.inr q)
  ·omega
 ·simp only [groupS, Bool.or_eq_true, decide_eq_true_iff] at hg ⊢
  rcases hg with q | q
  ·exact .inl (h.sub g q)
  ·exact .inr q
 ·simp only [groupS, Bool.or_eq_false_iff, decide_eq_false_iff_not] at hg
  simp only [groupS]
  rw [if_neg hg.2]
  exact h.leave_keep hg.1
 ·simp only [groupS]
  split
  ·rfl
  ·rename_i hgN
   simp only [groupS, Bool.or_eq_true, decide_eq_true_iff] at hg
   rcases hg with q | q
   ·refine h.leave_has (hc.only _) hp ?_ q
    rw [h.ask p 0 _ had (hc.only _) hc hp (fun i hi => by unfold onlyC; rw [if_pos hi])]
    exact he
   ·exact absurd q hgN
 ·funext j
  exact congrFun (h.ask p 0 had had' hc hc' hp ha) j
theorem alt_ok {n : Nat} {A B : Sem} (hA : SOk n A) (hB : SOk n B) : SOk n (altS A B) := by
 refine ⟨fun p c had j hc hp he => ?_, fun p j had hc h1 h2 => ?_, fun g hg => ?_, fun g hg => ?_, fun p j had g hg => ?_, fun p had j g hc hp he hg => ?_, fun p c had had' hc hc' hp ha => ?_⟩
 ·simp only [altS, Bool.or_eq_true] at he
  rcases he with q | q
  ·exact hA.le p 0 had j hc hp q
  ·exact hB.le p 0 had j hc hp q
 ·simp only [altS]
  split
  ·exact hA.leave_cap hc h1 h2
  ·exact hB.leave_cap hc h1 h2
 ·simp only [altS, Bool.or_eq_true] at hg
  rcases hg with (q | q) | (q | q)
  ·exact hA.ten g (.inl q)
  ·exact hB.ten g (.inl q)
  ·exact hA.ten g (.inr q)
  ·exact hB.ten g (.inr q)
 ·simp only [altS, Bool.and_eq_true, Bool.or_eq_true] at hg ⊢
  exact .inl (hA.sub g hg.1)
 ·simp only [altS, Bool.or_eq_false_iff] at hg
  simp only [altS]
  by_cases q : A.ends p 0 had j = true
  ·rw [if_pos q]; exact hA.leave_keep hg.1
  ·rw [if_neg q]; exact hB.leave_keep hg.2
 ·simp only [altS, Bool.and_eq_true, Bool.or_eq_true] at hg he
  obtain ⟨had1, hh1⟩ : ∃ c, c = onlyC had (altS A B).asked := ⟨_, rfl⟩
  have hc1 : CapOk n had1 := by rw [hh1]; exact hc.only _
  have hs : ∀ g, (altS A B).asked g = true → had1 g = had g := fun i hi => by rw [hh1]; unfold onlyC; rw [if_pos hi]
  have eA := hA.ask p 0 had1 had hc1 hc hp (fun g hg => hs g (by simp [altS, hg]))
  have eB := hB.ask p 0 had1 had hc1 hc hp (fun g hg => hs g (by simp [altS, hg]))
  rw [← hh1]
  simp only [altS]
  by_cases q : A.ends p 0 had1 j = true
  ·rw [if_pos q]; exact hA.leave_has hc1 hp q hg.1
  ·rw [if_neg q]
   rcases he with r | r
   ·rw [eA] at q; exact absurd r q
   ·exact hB.leave_has hc1 hp (by rw [eB]; exact r) hg.2
 ·funext j
  simp only [altS]
  rw [hA.ask p 0 had had' hc hc' hp (fun g hg => ha g (by simp [altS, hg])), hB.ask p 0 had had' hc hc' hp (fun g hg => ha g (by simp [altS, hg]))]
theorem catK_ask {n : Nat} {A B : Sem} (hA : SOk n A) (hB : SOk n B) {p j k : Nat} {had had' : Cp} (hc : CapOk n had) (hc' : CapOk n had') (hp : p ≤ n) (ha : ∀ g, A.asked g = true → had g = had' g) (hb : ∀ g, B.asked g = true → A.always g = false → had g = had' g) : catK A B p j had k = catK A B p j had' k := by
 unfold catK
 rw [← hA.ask p 0 had had' hc hc' hp ha]
 cases he : A.ends p 0 had k with
 | false => rfl
 | true =>
  have hl := hA.le p 0 had k hc hp he
  rw [hB.ask k 0 _ _ (hA.left_cap hc hl.1 hl.2) (hA.left_cap hc' hl.1 hl.2) hl.2 (hA.left_ask (fun g hg => hB.ten g (.inl hg)) hc hp he ha hb)]
theorem cat_ok {s : List UInt8} {A B : Sem} (hA : SOk s.length A) (hB : SOk s.length B) : SOk s.length (catS s A B) := by
 have hask : ∀ {had had' : Cp}, (∀ g, (catS s A B).asked g = true → had g = had' g) → (∀ g, A.asked g = true → had g = had' g) ∧ (∀ g, B.asked g = true → A.always g = false → had g = had' g) := fun ha => ⟨fun g hg => ha g (by simp [catS, hg]), fun g hg h2 => ha g (by simp [catS, hg, h2])⟩
 refine ⟨fun p c had j hc hp he => ?_, fun p j had hc h1 h2 => ?_, fun g hg => ?_, fun g hg => ?_, fun p j had g hg => ?_, fun p had j g hc hp he hg => ?_, fun p c had had' hc hc' hp ha => ?_⟩
 ·simp only [catS] at he
  obtain ⟨k, k1, k2, k3⟩ := anyR_iff.1 he
  unfold catK at k3
  rw [Bool.and_eq_true] at k3
  have q := hB.le k 0 _ j (hA.left_cap hc k1 k2) k2 k3.2
  exact ⟨by omega, q.2⟩
 ·simp only [catS]
  cases hk : greatest p (catK A B p j had) j with
  | none => exact hc
  | some k =>
   have := greatest_some hk
   exact hB.leave_cap (hA.leave_cap hc this.1 (by omega)) this.2.1 h2
 ·simp only [catS, Bool.or_eq_true, Bool.and_eq_true] at hg
  rcases hg with (q | q) | (q | q)
  ·exact hA.ten g (.inl q)
  ·exact hB.ten g (.inl q.1)
  ·exact hA.ten g (.inr q)
  ·exact hB.ten g (.inr q)
 ·simp only [catS, Bool.or_eq_true] at hg ⊢
  rcases hg with q | q
  ·exact .inl (hA.sub g q)
  ·exact .inr (hB.sub g q)
 ·simp only [catS, Bool.or_eq_false_iff] at hg
  simp only [catS]
  cases hk : greatest p (catK A B p j had) j with
  | none => rfl
  | some k =>
   show B.leave k j (A.leave p k had) g = had g
   rw [hB.leave_keep hg.2, hA.leave_keep hg.1]
 ·simp only [catS] at he
  obtain ⟨k0, k1, k2, k3⟩ := anyR_iff.1 he
  obtain ⟨had1, hh1⟩ : ∃ c, c = onlyC had (catS s A B).asked := ⟨_, rfl⟩
  have hc1 : CapOk s.length had1 := by rw [hh1]; exact hc.only _
  have hsame : ∀ g, (catS s A B).asked g = true → had1 g = had g := fun i hi => by
   rw [hh1]; unfold onlyC; rw [if_pos hi]
  obtain ⟨ha, hb⟩ := hask hsame
  have hK : ∀ k, catK A B p j had1 k = catK A B p j had k := fun k => catK_ask hA hB hc1 hc hp ha hb
  rw [← hh1]
  have hkj : k0 ≤ j := by
   have q := k3
   unfold catK at q
   rw [Bool.and_eq_true] at q
   exact (hB.le k0 0 _ j (hA.left_cap hc k1 k2) k2 q.2).1
  have e : (catS s A B).walk p j had1 = match greatest p (catK A B p j had1) j with | some k => B.leave k j (A.leave p k had1) | none => had1 := rfl
  rw [e]
  cases hgr : greatest p (catK A B p j had1) j with
  | none =>
   have := greatest_none hgr k0 k1 hkj
   rw [hK, k3] at this
   cases this
  | some k =>
   obtain ⟨q1, q2, q3⟩ := greatest_some hgr
   have hkn : k ≤ s.length := by
    have q := q3
    unfold catK at q
    rw [Bool.and_eq_true] at q
    exact (hA.le p 0 had1 k hc1 hp q.1).2
   unfold catK at q3
   rw [Bool.and_eq_true] at q3
   simp only [catS, Bool.or_eq_true] at hg
   simp only
   have hcA : CapOk s.length (A.leave p k had1) := hA.leave_cap hc1 q1 hkn
   by_cases r : A.always g = true
   ·exact leave_some (hA.leave_has hc1 hp q3.1 r)
   ·rcases hg with hg | hg
    ·exact absurd hg r
    ·refine hB.leave_has hcA hkn ?_ hg
     rw [hB.ask k 0 _ (leftS A B.asked p had1 k) hcA (hA.left_cap hc1 q1 hkn) hkn (fun i hi => ?_)]
     ·exact q3.2
     ·unfold leftS
      split
      ·rename_i hd
       have hev : A.ever i = false := by
        cases hz : A.ever i with
        | false => rfl
        | true => exact absurd ⟨hz, hi⟩ (disj_iff.1 hd i (hB.ten i (.inl hi)))
       exact hA.leave_keep hev
      ·rfl
 ·funext j
  simp only [catS]
  obtain ⟨h1, h2⟩ := hask ha
  exact anyR_congr fun k _ _ => catK_ask hA hB hc hc' hp h1 h2
theorem anyR_none {a b : Nat} {f : Nat → Bool} (h : b < a) : anyR a b f = false := by
 cases hq : anyR a b f with
 | false => rfl
 | true => obtain ⟨k, h1, h2, _⟩ := anyR_iff.1 hq; omega
theorem agn_fu {s : List UInt8} {A : Sem} {m M : Int} {j : Nat} : ∀ (f f' p c : Nat) (had : Cp), s.length ≤ f + p → s.length ≤ f' + p → agnE s A m M f p c had j = agnE s A m M f' p c had j
 | 0, 0, p, c, had, _, _ => rfl
 | 0, f' + 1, p, c, had, h, _ => by rw [agnE, agnE, anyR_none (by omega)]; simp
 | f + 1, 0, p, c, had, _, h => by rw [agnE, agnE, anyR_none (by omega)]; simp
 | f + 1, f' + 1, p, c, had, h, h' => by
  rw [agnE, agnE]
  congr 2
  exact anyR_congr fun k k1 _ => by rw [agn_fu f f' k _ _ (by omega) (by omega)]
theorem agn_le {s : List UInt8} {A : Sem} (hA : SOk s.length A) {m M : Int} : ∀ (f p c : Nat) (had : Cp) (j : Nat), CapOk s.length had → p ≤ s.length → agnE s A m M f p c had j = true → p ≤ j ∧ j ≤ s.length
 | 0, p, c, had, j, hc, hp, h => by
  rw [agnE, Bool.and_eq_true, decide_eq_true_iff] at h
  omega
 | f + 1, p, c, had, j, hc, hp, h => by
  rw [agnE, Bool.or_eq_true, Bool.and_eq_true, Bool.and_eq_true, decide_eq_true_iff] at h
  rcases h with h | h
  ·omega
  ·obtain ⟨k, k1, k2, k3⟩ := anyR_iff.1 h.2
   rw [Bool.and_eq_true] at k3
   have := agn_le hA f k _ _ j (hA.left_cap hc (by omega) k2) k2 k3.2
   omega
theorem agn_ask {s : List UInt8} {A : Sem} (hA : SOk s.length A) {m M : Int} {j : Nat} : ∀ (f p c : Nat) (had had' : Cp), CapOk s.length had → CapOk s.length had' → p ≤ s.length → (∀ g, A.asked g = true → had g = had' g) → agnE s A m M f p c had j = agnE s A m M f p c had' j
 | 0, p, c, had, had', hc, hc', hp, ha => by rw [agnE, agnE, hA.ask p 0 had had' hc hc' hp ha]
 | f + 1, p, c, had, had', hc, hc', hp, ha => by
  rw [agnE, agnE, hA.ask p 0 had had' hc hc' hp ha]
  congr 2
  refine anyR_congr fun k k1 k2 => ?_
  cases he : A.ends p 0 had' k with
  | false => rfl
  | true =>
   have he2 : A.ends p 0 had k = true := by rw [hA.ask p 0 had had' hc hc' hp ha]; exact he
   rw [agn_ask hA f k _ _ _ (hA.left_cap hc (by omega) k2) (hA.left_cap hc' (by omega) k2) k2 (hA.left_ask (fun g hg => hA.ten g (.inl hg)) hc hp he2 ha (fun g hg _ => ha g hg))]
theorem rep_cap {s : List UInt8} {A : Sem} (hA : SOk s.length A) {m M : Int} {j : Nat} (hj : j ≤ s.length) : ∀ (f p c : Nat) (had : Cp), CapOk s.length had → CapOk s.length (repW s A m M f p c had j)
 | 0, p, c, had, hc => by
  rw [repW]
  split
  ·exact hA.leave_cap hc (Nat.le_refl _) hj
  ·exact hc
 | f + 1, p, c, had, hc => by
  rw [repW]
  split
  ·split
   ·rename_i k hk
    have := greatest_some hk
    exact rep_cap hA hj f k _ _ (hA.leave_cap hc (by omega) (by omega))
   ·split
    ·exact hA.leave_cap hc (Nat.le_refl _) hj
    ·exact hc
  ·split
   ·exact hA.leave_cap hc (Nat.le_refl _) hj
   ·exact hc
theorem rep_keep {s : List UInt8} {A : Sem} (hA : SOk s.length A) {m M : Int} {j g : Nat} (hg : A.ever g = false) : ∀ (f p c : Nat) (had : Cp), repW s A m M f p c had j g = had g
 | 0, p, c, had => by
  rw [repW]
  split
  ·exact hA.leave_keep hg
  ·rfl
 | f + 1, p, c, had => by
  rw [repW]
  by_cases hpj : p < j
  ·rw [if_pos hpj]
   generalize greatest (p + 1) _ j = o
   cases o with
   | some k =>
    show repW s A m M f k (oneMore m M c) (A.leave p k had) j g = had g
    rw [rep_keep hA hg f, hA.leave_keep hg]
   | none =>
    show (if (c : Int) < m then A.leave j j had else had) g = had g
    by_cases hcm : (c : Int) < m
    ·rw [if_pos hcm]; exact hA.leave_keep hg
    ·rw [if_neg hcm]
  ·rw [if_neg hpj]
   by_cases hcm : (c : Int) < m
   ·rw [if_pos hcm]; exact hA.leave_keep hg
   ·rw [if_neg hcm]
theorem rep_some {s : List UInt8} {A : Sem} {m M : Int} {j g : Nat} : ∀ (f p c : Nat) (had : Cp), (had g).isSome = true → (repW s A m M f p c had j g).isSome = true
 | 0, p, c, had, h => by
  rw [repW]
  split
  ·exact leave_some h
  ·exact h
 | f + 1, p, c, had, h => by
  rw [repW]
  by_cases hpj : p < j
  ·rw [if_pos hpj]
   generalize greatest (p + 1) _ j = o
   cases o with
   | some k =>
    show (repW s A m M f k (oneMore m M c) (A.leave p k had) j g).isSome = true
    exact rep_some f _ _ _ (leave_some h)
   | none =>
    show ((if (c : Int) < m then A.leave j j had else had) g).isSome = true
    by_cases hcm : (c : Int) < m
    ·rw [if_pos hcm]; exact leave_some h
    ·rw [if_neg hcm]; exact h
  ·rw [if_neg hpj]
   by_cases hcm : (c : Int) < m
   ·rw [if_pos hcm]; exact leave_some h
   ·rw [if_neg hcm]; exact h
theorem run_le {s : List UInt8} {F : Nat → Bool} {m M : Int} : ∀ (f p c j : Nat), p ≤ s.length → runE s F m M f p c j = true → p ≤ j ∧ j ≤ s.length
 | 0, p, c, j, hp, h => by
  rw [runE, Bool.and_eq_true, decide_eq_true_iff, decide_eq_true_iff] at h
  omega
 | f + 1, p, c, j, hp, h => by
  rw [runE, Bool.or_eq_true, Bool.and_eq_true, Bool.and_eq_true, Bool.and_eq_true, decide_eq_true_iff, decide_eq_true_iff] at h
  rcases h with h | h
  ·omega
  ·have hs : p < s.length := by
    have q := h.1.2
    split at q
    ·rename_i b hb; exact (List.getElem?_eq_some_iff.1 hb).1
    ·cases q
   have := run_le f (p + 1) (c + 1) j (by omega) h.2
   omega
theorem times_ok {s : List UInt8} {A : Sem} (hA : SOk s.length A) {m M : Int} (hm : 0 ≤ m) {F : Option (Nat → Bool)} (hF : F.isSome = true → ∀ g, A.always g = false) : SOk s.length (timesS s m M F A) := by
 refine ⟨fun p c had j hc hp he => ?_, fun p j had hc h1 h2 => rep_cap hA h2 _ _ _ _ hc, fun g hg => hA.ten g hg, fun g hg => ?_, fun p j had g hg => rep_keep hA hg _ _ _ _, fun p had j g hc hp he hg => ?_, fun p c had had' hc hc' hp ha => ?_⟩
 ·cases F with
  | none => exact agn_le hA _ _ _ _ _ hc hp he
  | some F => exact run_le _ _ _ _ hp he
 ·simp only [timesS] at hg ⊢
  split at hg
  ·cases hg
  ·exact hA.sub g hg
 ·simp only [timesS] at hg
  split at hg
  ·cases hg
  ·rename_i hm0
   cases F with
   | some F =>
    have := hF rfl g
    rw [hg] at this; cases this
   | none =>
    obtain ⟨had1, hh1⟩ : ∃ c, c = onlyC had A.asked := ⟨_, rfl⟩
    have hc1 : CapOk s.length had1 := by rw [hh1]; exact hc.only _
    have hsame : ∀ g, A.asked g = true → had1 g = had g := fun i hi => by rw [hh1]; unfold onlyC; rw [if_pos hi]
    have he1 : agnE s A m M (s.length - p) p 0 had1 j = true := by
     rw [agn_ask hA _ _ _ had1 had hc1 hc hp hsame]; exact he
    have hl := agn_le hA _ _ _ _ _ hc1 hp he1
    show (repW s A m M (j - p) p 0 (onlyC had A.asked) j g).isSome = true
    rw [← hh1]
    rcases Nat.lt_or_ge p j with q | q
    ·obtain ⟨f, hf⟩ : ∃ f, j - p = f + 1 := ⟨j - p - 1, by omega⟩
     obtain ⟨f2, hf2⟩ : ∃ f, s.length - p = f + 1 := ⟨s.length - p - 1, by omega⟩
     rw [hf2, agnE, Bool.or_eq_true, Bool.and_eq_true, Bool.and_eq_true, decide_eq_true_iff] at he1
     rw [hf, repW, if_pos q]
     rcases he1 with r | r
     ·omega
     ·obtain ⟨k, k1, k2, k3⟩ := anyR_iff.1 r.2
      rw [Bool.and_eq_true] at k3
      have hkj := (agn_le hA _ _ _ _ _ (hA.left_cap hc1 (by omega) k2) k2 k3.2).1
      cases hgr : greatest (p + 1) (fun k => A.ends p 0 had1 k && agnE s A m M (s.length - k) k (oneMore m M 0) (leftS A A.asked p had1 k) j) j with
      | none =>
       have := greatest_none hgr k k1 hkj
       simp only [k3.1, Bool.true_and] at this
       rw [agn_fu (s.length - k) f2 k _ _ (by omega) (by omega), k3.2] at this
       cases this
      | some k' =>
       have h3 := greatest_some hgr
       simp only [Bool.and_eq_true] at h3
       exact rep_some _ _ _ _ (hA.leave_has hc1 hp h3.2.2.1 hg)
    ·obtain rfl : p = j := by omega
     have he0 : A.ends p 0 had1 p = true := by
      cases hf2 : s.length - p with
      | zero =>
       rw [hf2, agnE, Bool.and_eq_true, Bool.or_eq_true, decide_eq_true_iff, decide_eq_true_iff] at he1
       rcases he1.2 with r | r
       ·omega
       ·exact r
      | succ f2 =>
       rw [hf2, agnE, Bool.or_eq_true, Bool.and_eq_true, Bool.or_eq_true, Bool.and_eq_true, decide_eq_true_iff, decide_eq_true_iff] at he1
       rcases he1 with r | r
       ·rcases r.2 with r | r
        ·omega
        ·exact r
       ·obtain ⟨k, k1, k2, k3⟩ := anyR_iff.1 r.2
        rw [Bool.and_eq_true] at k3
        have := (agn_le hA _ _ _ _ _ (hA.left_cap hc1 (by omega) k2) k2 k3.2).1
        omega
     rw [Nat.sub_self, repW, if_pos (by omega)]
     exact hA.leave_has hc1 hp he0 hg
 ·funext j
  cases F with
  | none => exact agn_ask hA _ _ _ _ _ hc hc' hp ha
  | some F => rfl
def MOk : T → Prop
 | .leaf x => x.kind = 8 → 0 ≤ x.n ∧ x.n ≤ 9
 | .two _ a b => MOk a ∧ MOk b
 | .times m _ t => 0 ≤ m ∧ MOk t
 | .group n t => n.toNat < 10 ∧ MOk t
theorem sem_ok (s : List UInt8) : ∀ t : T, MOk t → SOk s.length (semT s t)
 | .leaf x, h => leaf_ok s x h
 | .two k a b, h => by
  unfold semT
  split
  ·exact cat_ok (sem_ok s a h.1) (sem_ok s b h.2)
  ·exact alt_ok (sem_ok s a h.1) (sem_ok s b h.2)
 | .times m M t, h => by
  refine times_ok (sem_ok s t h.2) h.1 (fun hf g => ?_)
  cases t with
  | leaf x => rfl
  | two _ _ _ => cases hf
  | times _ _ _ => cases hf
  | group _ _ => cases hf
 | .group n t, h => group_ok h.1 (sem_ok s t h.2)
end Go.Proofs.YtgllmhheahlpjaaGreatDoor
namespace Go.Proofs.YtgllmhheahlpjaaGreatDoor
open Go.RowKit Go.Lib
theorem loosen_bytes (t : T) : (loosen t).isBytes = t.isBytes := by
 cases t with
 | leaf x =>
  unfold loosen
  split
  ·rename_i h
   simp [T.isBytes, h]
  ·rfl
 | two _ _ _ => rfl
 | times _ _ _ => rfl
 | group _ _ => rfl
theorem anyR_mono {a b : Nat} {f g : Nat → Bool} (h : ∀ k, a ≤ k → k ≤ b → f k = true → g k = true) (hf : anyR a b f = true) : anyR a b g = true := by
 obtain ⟨k, h1, h2, h3⟩ := anyR_iff.1 hf
 exact anyR_iff.2 ⟨k, h1, h2, h k h1 h2 h3⟩
theorem agn_loose {s : List UInt8} {A B : Sem} {m M : Int} {j : Nat} (hA : SOk s.length A) (h : ∀ p c had had' j, CapOk s.length had → p ≤ s.length → A.ends p c had j = true → B.ends p c had' j = true) : ∀ (f p c : Nat) (had had' : Cp), CapOk s.length had → p ≤ s.length → agnE s A m M f p c had j = true → agnE s B m M f p c had' j = true
 | 0, p, c, had, had', hc, hp, he => by
  rw [agnE, Bool.and_eq_true, Bool.or_eq_true] at he ⊢
  exact ⟨he.1, he.2.imp id (fun q => h p 0 had had' p hc hp q)⟩
 | f + 1, p, c, had, had', hc, hp, he => by
  rw [agnE, Bool.or_eq_true, Bool.and_eq_true, Bool.or_eq_true, Bool.and_eq_true] at he ⊢
  rcases he with q | q
  ·exact .inl ⟨q.1, q.2.imp id (fun r => h p 0 had had' p hc hp r)⟩
  ·refine .inr ⟨q.1, anyR_mono (fun k k1 k2 k3 => ?_) q.2⟩
   rw [Bool.and_eq_true] at k3 ⊢
   exact ⟨h p 0 had had' k hc hp k3.1, agn_loose hA h f k _ _ _ (hA.left_cap hc (by omega) k2) k2 k3.2⟩
theorem sem_loose (s : List UInt8) : ∀ t : T, MOk t → ∀ (p c : Nat) (had had' : Cp) (j : Nat), CapOk s.length had → p ≤ s.length → (semT s t).ends p c had j = true → (semT s (loosen t)).ends p c had' j = true
 | .leaf x, hm, p, c, had, had', j, hc, hp, he => by
  unfold loosen
  split
  ·have := (leaf_ok s x hm).le p c had j hc hp he
   simp [semT, leafS, this.1, this.2]
  ·rename_i h8
   have e : leafE s x p had = leafE s x p had' := by
    unfold leafE
    rw [if_neg h8, if_neg h8]
   simp only [semT, leafS] at he ⊢
   rw [← e]
   exact he
 | .two k a b, hm, p, c, had, had', j, hc, hp, he => by
  unfold loosen
  simp only [semT] at he ⊢
  split at he
  ·rename_i hk
   rw [if_pos hk]
   simp only [catS] at he ⊢
   refine anyR_mono (fun i i1 i2 i3 => ?_) he
   unfold catK at i3 ⊢
   rw [Bool.and_eq_true] at i3 ⊢
   exact ⟨sem_loose s a hm.1 p 0 had had' i hc hp i3.1, sem_loose s b hm.2 i 0 _ _ j ((sem_ok s a hm.1).left_cap hc i1 i2) i2 i3.2⟩
  ·rename_i hk
   rw [if_neg hk]
   simp only [altS, Bool.or_eq_true] at he ⊢
   exact he.imp (sem_loose s a hm.1 p 0 had had' j hc hp) (sem_loose s b hm.2 p 0 had had' j hc hp)
 | .times m M t, hm, p, c, had, had', j, hc, hp, he => by
  unfold loosen
  simp only [semT, timesS, loosen_bytes] at he ⊢
  cases hb : t.isBytes with
  | some F => rw [hb] at he; exact he
  | none =>
   rw [hb] at he
   exact agn_loose (sem_ok s t hm.2) (fun p c had had' j hc hp h => sem_loose s t hm.2 p c had had' j hc hp h) _ _ _ _ _ hc hp he
 | .group n t, hm, p, c, had, had', j, hc, hp, he => sem_loose s t hm.2 p 0 had had' j hc hp he
theorem loosen_ok : ∀ t : T, MOk t → MOk (loosen t)
 | .leaf x, h => by
  unfold loosen
  split
  ·intro h8
   exact absurd h8 (by decide)
  ·exact h
 | .two k a b, h => ⟨loosen_ok a h.1, loosen_ok b h.2⟩
 | .times m M t, h => ⟨h.1, loosen_ok t h.2⟩
 | .group n t, h => ⟨h.1, loosen_ok t h.2⟩
theorem loosen_asks (s : List UInt8) : ∀ (t : T) (g : Nat), (semT s (loosen t)).asked g = false
 | .leaf x, g => by
  unfold loosen
  split
  ·simp [semT, leafS]
  ·rename_i h8
   simp [semT, leafS, h8]
 | .two k a b, g => by
  have ha := loosen_asks s a g
  have hb := loosen_asks s b g
  unfold loosen
  simp only [semT]
  split
  ·simp [catS, ha, hb]
  ·simp [altS, ha, hb]
 | .times m M t, g => loosen_asks s t g
 | .group n t, g => loosen_asks s t g
end Go.Proofs.YtgllmhheahlpjaaGreatDoor
namespace Go.Proofs.YtgllmhheahlpjaaGreatDoor
open Go.RowKit Go.Lib
section
variable (s : List UInt8)
end
theorem rep_fu {s : List UInt8} {A : Sem} {m M : Int} {j : Nat} : ∀ (f f' p c : Nat) (had : Cp), j ≤ f + p → j ≤ f' + p → repW s A m M f p c had j = repW s A m M f' p c had j
 | 0, 0, p, c, had, _, _ => rfl
 | 0, f' + 1, p, c, had, h, _ => by
  rw [repW, repW, if_neg (show ¬ p < j by omega)]
 | f + 1, 0, p, c, had, _, h => by
  rw [repW, repW, if_neg (show ¬ p < j by omega)]
 | f + 1, f' + 1, p, c, had, h, h' => by
  rw [repW, repW]
  by_cases hp : p < j
  ·rw [if_pos hp, if_pos hp]
   cases hg : greatest (p + 1) (fun k => A.ends p 0 had k && agnE s A m M (s.length - k) k (oneMore m M c) (leftS A A.asked p had k) j) j with
   | none => rfl
   | some k =>
    have := greatest_some hg
    exact rep_fu f f' k _ _ (by omega) (by omega)
  ·rw [if_neg hp, if_neg hp]
theorem left_same {n : Nat} {A : Sem} (hA : SOk n A) {G : Gs} (hG : ∀ g, G g = true → g < 10) {p k : Nat} {had : Cp} : ∀ g, G g = true → A.leave p k had g = leftS A G p had k g := by
 intro g hg
 unfold leftS
 split
 ·rename_i hd
  refine hA.leave_keep ?_
  cases hz : A.ever g with
  | false => rfl
  | true => exact absurd ⟨hz, hg⟩ (disj_iff.1 hd g (hG g hg))
 ·rfl
def MxOk : T → Prop
 | .leaf _ => True
 | .two _ a b => MxOk a ∧ MxOk b
 | .times _ M t => (M = -1 ∨ (0 : Int) ≤ M) ∧ MxOk t
 | .group _ t => MxOk t
end Go.Proofs.YtgllmhheahlpjaaGreatDoor
