/- match: what is left by what was there is what is left by what was asked. Of no program. -/
import Derived.Test.YtjgegohidhdbpaaGreatDoorJMaB
import Derived.Test.YtjgegohidhdbpaaGreatDoorJMaE
import Derived.Laws.BitsAllLaws
set_option linter.unusedVariables false
set_option linter.unusedSimpArgs false
set_option maxRecDepth 100000
set_option maxHeartbeats 40000000
namespace Go.Proofs.YtjgegohidhdbpaaGreatDoor
open Go.RowKit Go.Lib
theorem QL (a b c : Cp) : zx a (zx b c) = zx (zx a b) c := by
 funext g
 unfold zx
 by_cases h1 : (c g).isSome = true
 ·simp [h1]
 ·simp [h1]
theorem yV (c : Cp) (G : Gs) : zx c (qP c G) = c := by
 funext g
 unfold zx qP
 cases G g with
 | true =>
  simp only [if_true]
  split <;> rfl
 | false => simp
theorem qbl {c : Cp} {G H : Gs} (h : ∀ g, H g = true → G g = true) : qP (qP c G) H = qP c H := by
 funext g
 unfold qP
 cases hh : H g with
 | true => rw [if_pos rfl, if_pos (h g hh), if_pos rfl]
 | false => rfl
theorem yW {A : Sem} {p j : Nat} {c : Cp} {G : Gs} (h : ∀ g, A.asked g = true → G g = true) : zx c (A.leave p j (qP c G)) = A.leave p j c := by
 unfold Sem.leave
 split
 ·exact yV c G
 ·rw [qbl h, QL, yV]
def Th (n : Nat) (S : Sem) : Prop := ∀ p j had, qo n had → p ≤ n → S.ends p 0 had j = true → S.walk p j had = S.leave p j had
theorem qap {n : Nat} {S : Sem} (hS : vt n S) (h : ∀ p j had, qo n had → p ≤ n → S.ends p 0 had j = true → S.walk p j had = zx had (S.walk p j (qP had S.asked))) : Th n S := fun p j had hc hp he => by
 unfold Sem.leave
 split
 ·rename_i hn
  funext g
  refine hS.keep p j had g ?_
  cases hg : S.ever g with
  | false => rfl
  | true =>
   have := jg.1 hn g (hS.ten g (.inr hg))
   rw [hg] at this; cases this
 ·exact h p j had hc hp he
theorem qgg (s : List UInt8) (x : Nd) : Th s.length (zi s x) := fun p j had _ _ _ => by
 have hn : XP (zi s x).ever = true := jg.2 fun g _ => rfl
 unfold Sem.leave
 rw [if_pos hn]
 rfl
theorem qdG {n N : Nat} {A : Sem} (hN : N < 10) (hA : vt n A) : Th n (ke N A) := qap (WJ hN hA) fun p j had hc hp he => by
 have h := yW (A := A) (p := p) (j := j) (c := had) (G := A.asked) (fun g hg => hg)
 funext g
 have e1 : (ke N A).walk p j had g = if g = N then some (p, j) else A.leave p j had g := rfl
 have e2 : zx had ((ke N A).walk p j (qP had (ke N A).asked)) g = if g = N then some (p, j) else zx had (A.leave p j (qP had A.asked)) g := by
  unfold zx
  show (if (if g = N then some (p, j) else A.leave p j (qP had A.asked) g).isSome = true then (if g = N then some (p, j) else A.leave p j (qP had A.asked) g) else had g) = _
  by_cases hg : g = N
  ·rw [if_pos hg, if_pos hg]; rfl
  ·rw [if_neg hg, if_neg hg]
 rw [e1, e2, h]
theorem qi0 {n : Nat} {A B : Sem} (hA : vt n A) (hB : vt n B) : Th n (kP A B) := qap (qdH hA hB) fun p j had hc hp he => by
 have e : A.ends p 0 (qP had (kP A B).asked) j = A.ends p 0 had j := by
  rw [hA.ask p 0 _ had (hc.only _) hc hp (fun g hg => by unfold qP; rw [if_pos (by simp [kP, hg])])]
 have hw : ∀ c, (kP A B).walk p j c = if A.ends p 0 c j = true then A.leave p j c else B.leave p j c := fun _ => rfl
 rw [hw, hw, e]
 split
 ·exact (yW (fun g hg => by simp [kP, hg])).symm
 ·exact (yW (fun g hg => by simp [kP, hg])).symm
theorem qi1 {s : List UInt8} {A B : Sem} (hA : vt s.length A) (hB : vt s.length B) : Th s.length (jm s A B) := qap (qdI hA hB) fun p j had hc hp he => by
 obtain ⟨c1, yp⟩ : ∃ c, c = qP had (jm s A B).asked := ⟨_, rfl⟩
 have k1 : qo s.length c1 := by rw [yp]; exact hc.only _
 have vb : ∀ g, (jm s A B).asked g = true → c1 g = had g := fun i hi => by rw [yp]; unfold qP; rw [if_pos hi]
 have ha : ∀ g, A.asked g = true → c1 g = had g := fun g hg => vb g (by simp [jm, hg])
 have hb : ∀ g, B.asked g = true → A.always g = false → c1 g = had g := fun g hg h2 => vb g (by simp [jm, hg, h2])
 have hK : kf A B p j c1 = kf A B p j had := by funext k; exact JU hA hB k1 hc hp ha hb
 have hw : ∀ c, (jm s A B).walk p j c = match greatest p (kf A B p j c) j with | some k => B.leave k j (A.leave p k c) | none => c := fun _ => rfl
 rw [← yp, hw, hw, hK]
 cases QD : greatest p (kf A B p j had) j with
 | none =>
  simp only
  rw [yp, yV]
 | some k =>
  simp only
  obtain ⟨q1, q2, q3⟩ := qL QD
  unfold kf at q3
  rw [Bool.and_eq_true] at q3
  have WK := (hA.le p 0 had k hc hp q3.1).2
  have hX : zx had (A.leave p k c1) = A.leave p k had := by rw [yp]; exact yW (fun g hg => by simp [jm, hg])
  have hOn : qP (A.leave p k c1) B.asked = qP (A.leave p k had) B.asked := vd fun g hg => by
   refine hA.leave_ask k1 hp (fun _ => ?_) ha ?_
   ·rw [hA.ask p 0 c1 had k1 hc hp ha]; exact q3.1
   ·cases hal : A.always g with
    | true => exact .inl rfl
    | false => exact .inr (hb g hg hal)
  unfold Sem.leave at hX ⊢
  by_cases hn : XP B.ever = true
  ·simp only [hn, if_true]
   exact hX.symm
  ·simp only [hn, Bool.false_eq_true, if_false]
   have e3 : (if XP A.ever = true then had else zx had (A.walk p k (qP had A.asked))) = A.leave p k had := rfl
   have e4 : (if XP A.ever = true then c1 else zx c1 (A.walk p k (qP c1 A.asked))) = A.leave p k c1 := rfl
   rw [e3, e4, hOn, QL]
   rw [e3, e4] at hX
   rw [hX]
theorem qdJ {s : List UInt8} {A : Sem} (hA : vt s.length A) {m M : Int} {j : Nat} (hj : j ≤ s.length) (c0 : Cp) : ∀ (f p c : Nat) (had qw : Cp), qo s.length had → qo s.length qw → p ≤ s.length → (∀ g, A.asked g = true → had g = qw g) → had = zx c0 qw → zK s A m M f p c had j = zx c0 (zK s A m M f p c qw j) := by
 have hl : ∀ (p k : Nat) (had qw : Cp), (∀ g, A.asked g = true → had g = qw g) → had = zx c0 qw → A.leave p k had = zx c0 (A.leave p k qw) := fun p k had qw ha ho => by
  unfold Sem.leave
  split
  ·exact ho
  ·rw [vd ha, QL, ← ho]
 intro f
 induction f with
 | zero =>
  intro p c had qw hc kZ hp ha ho
  rw [zK, zK]
  by_cases h : (c : Int) < m
  ·rw [if_pos h, if_pos h]; exact hl _ _ _ _ ha ho
  ·rw [if_neg h, if_neg h]; exact ho
 | succ f ih =>
  intro p c had qw hc kZ hp ha ho
  have KD : (if (c : Int) < m then A.leave j j had else had) = zx c0 (if (c : Int) < m then A.leave j j qw else qw) := by
   by_cases h : (c : Int) < m
   ·rw [if_pos h, if_pos h]; exact hl _ _ _ _ ha ho
   ·rw [if_neg h, if_neg h]; exact ho
  rw [zK, zK]
  by_cases Jb : p < j
  ·rw [if_pos Jb, if_pos Jb]
   have vb : greatest (p + 1) (fun k => A.ends p 0 had k && zc s A m M (s.length - k) k (qO m M c) (qW A A.asked p had k) j) j = greatest (p + 1) (fun k => A.ends p 0 qw k && zc s A m M (s.length - k) k (qO m M c) (qW A A.asked p qw k) j) j := by
    congr 1
    funext k
    rw [hA.ask p 0 had qw hc kZ hp ha]
    cases he : A.ends p 0 qw k with
    | false => rfl
    | true =>
     have he2 : A.ends p 0 had k = true := by rw [hA.ask p 0 had qw hc kZ hp ha]; exact he
     have ZM := hA.le p 0 had k hc hp he2
     rw [Za hA _ k _ _ _ (hA.left_cap hc ZM.1 ZM.2) (hA.left_cap kZ ZM.1 ZM.2) ZM.2 (hA.left_ask (fun g hg => hA.ten g (.inl hg)) hc hp he2 ha (fun g hg _ => ha g hg))]
   rw [vb]
   cases QD : greatest (p + 1) (fun k => A.ends p 0 qw k && zc s A m M (s.length - k) k (qO m M c) (qW A A.asked p qw k) j) j with
   | none => exact KD
   | some k =>
    have h3 := qL QD
    simp only [Bool.and_eq_true] at h3
    have ZM := hA.le p 0 qw k kZ hp h3.2.2.1
    exact ih k _ _ _ (hA.leave_cap hc ZM.1 ZM.2) (hA.leave_cap kZ ZM.1 ZM.2) ZM.2 (fun g hg => hA.leave_ask hc hp (fun _ => by rw [hA.ask p 0 had qw hc kZ hp ha]; exact h3.2.2.1) ha (.inr (ha g hg))) (hl _ _ _ _ ha ho)
  ·rw [if_neg Jb, if_neg Jb]
   exact KD
theorem qdK {s : List UInt8} {A : Sem} (hA : vt s.length A) {m M : Int} (hm : 0 ≤ m) {F : Option (Nat → Bool)} (hF : F.isSome = true → ∀ g, A.always g = false) : Th s.length (jR s m M F A) := qap (JV hA hm hF) fun p j had hc hp he => by
 have hj := ((JV hA (M := M) hm hF).le p 0 had j hc hp he).2
 exact qdJ hA hj had _ _ _ _ _ hc (hc.only _) hp (fun g hg => by
  have hg' : (jR s m M F A).asked g = true := hg
  unfold qP; rw [if_pos hg']) (yV _ _).symm
theorem U3 (s : List UInt8) : ∀ t : T, Wy t → Th s.length (qd s t)
 | .leaf x, h => qgg s x
 | .two k a b, h => by
  unfold qd
  split
  ·exact qi1 (zw s a h.1) (zw s b h.2)
  ·exact qi0 (zw s a h.1) (zw s b h.2)
 | .times m M t, h => by
  refine qdK (zw s t h.2) h.1 (fun hf g => ?_)
  cases t with
  | leaf x => rfl
  | two _ _ _ => cases hf
  | times _ _ _ => cases hf
  | group _ _ => cases hf
 | .group n t, h => qdG h.1 (zw s t h.2)
def jy (a : Nat) (f : Nat → Option Cp) : Nat → Option Cp
 | 0 => if a = 0 then f 0 else none
 | b + 1 => if a ≤ b + 1 then (match f (b + 1) with | some x => some x | none => jy a f b) else none
section
variable (s : List UInt8)
def qiA (x : Nd) (i j : Nat) (c : Cp) : Option Cp := if (zi s x).ends i 0 c j then some c else none
def j7 (A : Nat → Nat → Cp → Option Cp) (m M : Int) : Nat → Nat → Nat → Nat → Cp → Option Cp
 | f, p, j, d, c => if p = j ∧ m ≤ (d : Int) then some c else if p = j then A j j c else if M ≠ -1 ∧ M ≤ (d : Int) then none else
  match f with
  | 0 => none
  | f + 1 => jy (p + 1) (fun k => (A p k c).bind (j7 A m M f k j (d + 1))) j
def zh : T → Nat → Nat → Cp → Option Cp
 | .leaf x, i, j, c => qiA s x i j c
 | .two k a b, i, j, c => if k = 4 then jy i (fun k => (zh a i k c).bind (zh b k j)) j else (match zh a i j c with | some x => some x | none => zh b i j c)
 | .times m M t, i, j, c => j7 (zh t) m M (j - i) i j 0 c
 | .group n t, i, j, c => (zh t i j c).map fun a g => if g = n.toNat then some (i, j) else a g
end
theorem Q5 {A : Nat → Nat → Cp → Option Cp} {m M : Int} {f p j d : Nat} {c : Cp} : j7 A m M (f + 1) p j d c = if p = j ∧ m ≤ (d : Int) then some c else if p = j then A j j c else if M ≠ -1 ∧ M ≤ (d : Int) then none else
  jy (p + 1) (fun k => (A p k c).bind (j7 A m M f k j (d + 1))) j := by rw [j7]
theorem JW {a : Nat} {f : Nat → Option Cp} {g : Nat → Bool} {h : Nat → Cp} : ∀ (b : Nat), (∀ k, a ≤ k → k ≤ b → f k = if g k = true then some (h k) else none) → jy a f b = (greatest a g b).map h
 | 0, hf => by
  unfold jy greatest
  by_cases h0 : a = 0
  ·rw [if_pos h0, hf 0 (by omega) (Nat.le_refl _)]
   by_cases hg : g 0 = true
   ·rw [if_pos hg, if_pos ⟨h0, hg⟩]; rfl
   ·rw [if_neg hg, if_neg (fun q => hg q.2)]; rfl
  ·rw [if_neg h0, if_neg (fun q => h0 q.1)]; rfl
 | b + 1, hf => by
  unfold jy greatest
  by_cases h0 : a ≤ b + 1
  ·rw [if_pos h0, hf (b + 1) h0 (Nat.le_refl _)]
   by_cases hg : g (b + 1) = true
   ·rw [if_pos hg, if_pos ⟨h0, hg⟩]; rfl
   ·rw [if_neg hg, if_neg (fun q => hg q.2)]
    exact JW b (fun k k1 k2 => hf k k1 (by omega))
  ·rw [if_neg h0, if_neg (fun q => h0 q.1)]
   have : greatest a g b = none := by
    cases hq : greatest a g b with
    | none => rfl
    | some k => have := qL hq; omega
   rw [this]; rfl
theorem U4 {s : List UInt8} {A : Sem} {m M : Int} {j : Nat} : ∀ (f f' p c : Nat) (had : Cp), j ≤ f + p → j ≤ f' + p → zK s A m M f p c had j = zK s A m M f' p c had j
 | 0, 0, p, c, had, _, _ => rfl
 | 0, f' + 1, p, c, had, h, _ => by
  rw [zK, zK, if_neg (show ¬ p < j by omega)]
 | f + 1, 0, p, c, had, _, h => by
  rw [zK, zK, if_neg (show ¬ p < j by omega)]
 | f + 1, f' + 1, p, c, had, h, h' => by
  rw [zK, zK]
  by_cases hp : p < j
  ·rw [if_pos hp, if_pos hp]
   cases hg : greatest (p + 1) (fun k => A.ends p 0 had k && zc s A m M (s.length - k) k (qO m M c) (qW A A.asked p had k) j) j with
   | none => rfl
   | some k =>
    have := qL hg
    exact U4 f f' k _ _ (by omega) (by omega)
  ·rw [if_neg hp, if_neg hp]
def vQ (m M : Int) (d : Nat) : Nat := if M = -1 then min d m.toNat else d
theorem Xf {m M : Int} (hm : 0 ≤ m) (d : Nat) : (m ≤ ((vQ m M d : Nat) : Int)) ↔ m ≤ (d : Int) := by
 unfold vQ
 split <;> omega
theorem Jo {m M : Int} {d : Nat} (hd : M = -1 ∨ (d : Int) ≤ M) : ((vQ m M d : Nat) : Int) ≠ M ↔ ¬ (M ≠ -1 ∧ M ≤ (d : Int)) := by
 unfold vQ
 split <;> omega
theorem Yg {m M : Int} (d : Nat) : qO m M (vQ m M d) = vQ m M (d + 1) := by
 unfold qO vQ
 split
 ·omega
 ·rfl
theorem KO {n : Nat} {A : Sem} (hA : vt n A) {G : Gs} (hG : ∀ g, G g = true → g < 10) {p k : Nat} {had : Cp} : ∀ g, G g = true → A.leave p k had g = qW A G p had k g := by
 intro g hg
 unfold qW
 split
 ·rename_i hd
  refine hA.leave_keep ?_
  cases hz : A.ever g with
  | false => rfl
  | true => exact absurd ⟨hz, hg⟩ (Z5.1 hd g (hG g hg))
 ·rfl
def FitS (n : Nat) (f : Nat → Nat → Cp → Option Cp) (S : Sem) : Prop := ∀ i j c, qo n c → i ≤ j → j ≤ n → f i j c = if S.ends i 0 c j = true then some (S.leave i j c) else none
theorem qi2 {s : List UInt8} {A : Sem} (hA : vt s.length A) {m M : Int} {j : Nat} (hj : j ≤ s.length) {c : Nat} {had : Cp} (hc : qo s.length had) : ∀ (F : Nat), zc s A m M F j c had j = (decide (m ≤ c) || A.ends j 0 had j)
 | 0 => by rw [zc]; simp
 | F + 1 => by
  rw [zc]
  have : zZ (j + 1) s.length (fun k => A.ends j 0 had k && zc s A m M F k (qO m M c) (qW A A.asked j had k) j) = false := by
   rw [Bool.eq_false_iff]
   intro h
   obtain ⟨k, h1, h2, h3⟩ := qF.1 h
   rw [Bool.and_eq_true] at h3
   have := ZF hA F k _ _ j (hA.left_cap hc (by omega) h2) h2 h3.2
   omega
  rw [this, Bool.and_false, Bool.or_false]
  simp
theorem Z6 {a b j : Nat} {f : Nat → Bool} (hj : j ≤ b) (h : ∀ k, a ≤ k → k ≤ b → f k = true → k ≤ j) : zZ a b f = (greatest a f j).isSome := by
 cases hg : greatest a f j with
 | none =>
  rw [Option.isSome_none, Bool.eq_false_iff]
  intro q
  obtain ⟨k, h1, h2, h3⟩ := qF.1 q
  rw [jb hg k h1 (h k h1 h2 h3)] at h3
  cases h3
 | some k =>
  have := qL hg
  rw [Option.isSome_some, qF]
  exact ⟨k, this.1, by omega, this.2.2⟩
theorem qgh {s : List UInt8} {A : Sem} (hA : vt s.length A) {f : Nat → Nat → Cp → Option Cp} (hf : FitS s.length f A) {m M : Int} (hm : 0 ≤ m) {j : Nat} (hj : j ≤ s.length) :
  ∀ (fu p d : Nat) (c : Cp), qo s.length c → p ≤ j → j ≤ fu + p → (M = -1 ∨ (d : Int) ≤ M) → j7 f m M fu p j d c = if zc s A m M (s.length - p) p (vQ m M d) c j = true then some (zK s A m M (j - p) p (vQ m M d) c j) else none := by
 intro fu
 have Wj : ∀ (fu d : Nat) (c : Cp), qo s.length c → j7 f m M fu j j d c = if zc s A m M (s.length - j) j (vQ m M d) c j = true then some (zK s A m M (j - j) j (vQ m M d) c j) else none := by
  intro fu d c hc
  rw [qi2 hA hj hc, Nat.sub_self, zK]
  unfold j7
  have e := Xf (M := M) hm d
  by_cases h : m ≤ (d : Int)
  ·rw [if_pos ⟨rfl, h⟩, decide_eq_true (e.2 h), Bool.true_or, if_pos rfl, if_neg (by have := e.2 h; omega)]
  ·have h' : ¬ m ≤ ((vQ m M d : Nat) : Int) := fun q => h (e.1 q)
   rw [if_neg (fun q => h q.2), if_pos rfl, hf j j c hc (Nat.le_refl _) hj, decide_eq_false h', Bool.false_or, if_pos (show ((vQ m M d : Nat) : Int) < m by omega)]
 induction fu with
 | zero =>
  intro p d c hc hp hfu hd
  obtain rfl : p = j := by omega
  exact Wj 0 d c hc
 | succ fu ih =>
  intro p d c hc hp hfu hd
  by_cases Jb : p = j
  ·subst Jb; exact Wj _ d c hc
  obtain ⟨F, hF⟩ : ∃ F, s.length - p = F + 1 := ⟨s.length - p - 1, by omega⟩
  obtain ⟨F', hF'⟩ : ∃ F', j - p = F' + 1 := ⟨j - p - 1, by omega⟩
  rw [Q5, if_neg (fun q => Jb q.1), if_neg Jb, hF, hF', zc, zK]
  by_cases hM : M ≠ -1 ∧ M ≤ (d : Int)
  ·rw [if_pos hM, decide_eq_false (fun q : j = p => Jb q.symm), decide_eq_false (fun q => (Jo hd).1 q hM)]
   simp
  ·rw [if_neg hM, decide_eq_false (fun q : j = p => Jb q.symm), decide_eq_true ((Jo hd).2 hM), Bool.false_and, Bool.false_or, Bool.true_and, if_pos (show p < j by omega)]
   have qlp := Yg (m := m) (M := M) d
   rw [qlp]
   obtain ⟨g, hg⟩ : ∃ g : Nat → Bool, g = fun k => A.ends p 0 c k && zc s A m M (s.length - k) k (vQ m M (d + 1)) (qW A A.asked p c k) j := ⟨_, rfl⟩
   have hgk : ∀ k, g k = (A.ends p 0 c k && zc s A m M (s.length - k) k (vQ m M (d + 1)) (qW A A.asked p c k) j) := fun k => by rw [hg]
   have hd1 : M = -1 ∨ ((d + 1 : Nat) : Int) ≤ M := by omega
   have hdn := JW (a := p + 1) (f := fun k => (f p k c).bind (j7 f m M fu k j (d + 1))) (g := g) (h := fun k => zK s A m M (j - k) k (vQ m M (d + 1)) (A.leave p k c) j) j (fun k k1 k2 => by
    rw [hgk]
    show (f p k c).bind _ = _
    rw [hf p k c hc (by omega) (by omega)]
    cases he : A.ends p 0 c k with
    | false => rfl
    | true =>
     rw [if_pos rfl, Bool.true_and]
     have hlc : qo s.length (A.leave p k c) := hA.leave_cap hc (by omega) (by omega)
     have hag := Za hA (m := m) (M := M) (j := j) (s.length - k) k (vQ m M (d + 1)) (A.leave p k c) (qW A A.asked p c k) hlc (hA.left_cap hc (by omega) (by omega)) (by omega) (KO hA (fun g hg => hA.ten g (.inl hg)))
     show j7 f m M fu k j (d + 1) (A.leave p k c) = _
     rw [ih k (d + 1) _ hlc k2 (by omega) hd1, hag])
   rw [hdn]
   have Jc : zZ (p + 1) s.length (fun k => A.ends p 0 c k && zc s A m M F k (vQ m M (d + 1)) (qW A A.asked p c k) j) = (greatest (p + 1) g j).isSome := by
    rw [yX (g := g) (fun k k1 k2 => by rw [hgk, JY F (s.length - k) k _ _ (by omega) (by omega)])]
    refine Z6 hj (fun k k1 k2 h => ?_)
    rw [hgk, Bool.and_eq_true] at h
    exact (ZF hA _ k _ _ j (hA.left_cap hc (by omega) k2) k2 h.2).1
   rw [Jc, ← hg]
   cases QD : greatest (p + 1) g j with
   | none => rfl
   | some k =>
    have := qL QD
    rw [Option.isSome_some, if_pos rfl]
    exact congrArg some (U4 (j - k) F' k _ _ (by omega) (by omega))
theorem qgj {s : List UInt8} {x : Nd} (hx : x.kind = 1) {m M : Int} (hm : 0 ≤ m) : ∀ (f p d : Nat) (had : Cp) (j : Nat), p ≤ s.length → s.length ≤ f + p → (M = -1 ∨ (d : Int) ≤ M) → kg s x.set m M f p d j = zc s (zi s x) m M f p (vQ m M d) had j := by
 have jA : ∀ p (had : Cp) k, (zi s x).ends p 0 had k = (match s[p]? with | some b => x.set b.toNat && decide (k = p + 1) | none => false) := by
  intro p had k
  simp only [zi, zE, hx]
  cases s[p]? with
  | none => rfl
  | some b =>
   simp only
   cases x.set b.toNat <;> simp
 intro f
 induction f with
 | zero =>
  intro p d had j hp hf hd
  have : (zi s x).ends p 0 had p = false := by
   rw [jA]
   cases s[p]? with
   | none => rfl
   | some b => simp
  rw [kg, zc, this, Bool.or_false, Bool.and_comm, decide_eq_decide.2 (Xf (M := M) hm d)]
 | succ f ih =>
  intro p d had j hp hf hd
  have h0 : (zi s x).ends p 0 had p = false := by
   rw [jA]
   cases s[p]? with
   | none => rfl
   | some b => simp
  rw [kg, zc, h0, Bool.or_false, Bool.and_comm (decide (m ≤ (d : Int))), decide_eq_decide.2 (Xf (M := M) hm d)]
  congr 1
  by_cases hM : M ≠ -1 ∧ M ≤ (d : Int)
  ·rw [decide_eq_false (show ¬ ((d : Int) ≠ M) by omega), decide_eq_false (fun q => (Jo hd).1 q hM)]
   simp
  ·rw [decide_eq_true (show ((d : Int) ≠ M) by omega), decide_eq_true ((Jo hd).2 hM), Bool.true_and, Bool.true_and, Yg]
   have hd1 : M = -1 ∨ ((d + 1 : Nat) : Int) ≤ M := by omega
   cases hb : s[p]? with
   | none =>
    have : zZ (p + 1) s.length (fun k => (zi s x).ends p 0 had k && zc s (zi s x) m M f k (vQ m M (d + 1)) (qW (zi s x) (zi s x).asked p had k) j) = false := by
     rw [Bool.eq_false_iff]
     intro h
     obtain ⟨k, h1, h2, h3⟩ := qF.1 h
     rw [jA, hb] at h3
     cases h3
    rw [this]; rfl
   | some b =>
    have UB := (List.getElem?_eq_some_iff.1 hb).1
    cases hs : x.set b.toNat with
    | false =>
     have : zZ (p + 1) s.length (fun k => (zi s x).ends p 0 had k && zc s (zi s x) m M f k (vQ m M (d + 1)) (qW (zi s x) (zi s x).asked p had k) j) = false := by
      rw [Bool.eq_false_iff]
      intro h
      obtain ⟨k, h1, h2, h3⟩ := qF.1 h
      rw [jA, hb] at h3
      simp only [hs, Bool.false_and] at h3
      cases h3
     rw [this]; simp [hs]
    | true =>
     simp only [hs, Bool.true_and]
     rw [ih (p + 1) (d + 1) (qW (zi s x) (zi s x).asked p had (p + 1)) j (by omega) (by omega) hd1, Bool.eq_iff_iff, qF]
     constructor
     ·intro h
      exact ⟨p + 1, Nat.le_refl _, by omega, by rw [jA, hb]; simpa [hs] using h⟩
     ·rintro ⟨k, h1, h2, h3⟩
      rw [jA, hb] at h3
      simp only [hs, Bool.true_and, Bool.and_eq_true, decide_eq_true_iff] at h3
      obtain ⟨rfl, h4⟩ := h3
      exact h4
def VM : T → Prop
 | .leaf _ => True
 | .two _ a b => VM a ∧ VM b
 | .times _ M t => (M = -1 ∨ (0 : Int) ≤ M) ∧ VM t
 | .group _ t => VM t
theorem ju (s : List UInt8) : ∀ t : T, Wy t → VM t → FitS s.length (zh s t) (qd s t)
 | .leaf x, h, _ => fun i j c hc hi hj => by
  unfold zh qiA qd
  have : (zi s x).leave i j c = c := by unfold Sem.leave; exact if_pos (jg.2 fun g _ => rfl)
  rw [this]
 | .two k a b, h, h2 => fun i j c hc hi hj => by
  have hA := zw s a h.1
  have hB := zw s b h.2
  have fA := ju s a h.1 h2.1
  have fB := ju s b h.2 h2.2
  have hth := U3 s (.two k a b) h
  unfold zh
  by_cases hk : k = 4
  ·have e : qd s (.two k a b) = jm s (qd s a) (qd s b) := by rw [qd, if_pos hk]
   rw [if_pos hk]
   rw [e] at hth ⊢
   have hdn := JW (a := i) (f := fun k => (zh s a i k c).bind (zh s b k j)) (g := kf (qd s a) (qd s b) i j c) (h := fun k => (qd s b).leave k j ((qd s a).leave i k c)) j (fun k k1 k2 => by
    show (zh s a i k c).bind _ = _
    unfold kf
    rw [fA i k c hc k1 (by omega)]
    cases he : (qd s a).ends i 0 c k with
    | false => rfl
    | true =>
     rw [if_pos rfl, Bool.true_and]
     have hlc : qo s.length ((qd s a).leave i k c) := hA.leave_cap hc k1 (by omega)
     show zh s b k j ((qd s a).leave i k c) = _
     rw [fB k j _ hlc k2 hj]
     rw [hB.ask k 0 ((qd s a).leave i k c) (qW (qd s a) (qd s b).asked i c k) hlc (hA.left_cap hc k1 (by omega)) (by omega) (KO hA (fun g hg => hB.ten g (.inl hg)))])
   rw [hdn]
   have jA : (jm s (qd s a) (qd s b)).ends i 0 c j = (greatest i (kf (qd s a) (qd s b) i j c) j).isSome := by
    refine Z6 hj (fun k k1 k2 q => ?_)
    unfold kf at q
    rw [Bool.and_eq_true] at q
    exact (hB.le k 0 _ j (hA.left_cap hc k1 k2) k2 q.2).1
   rw [jA]
   cases QD : greatest i (kf (qd s a) (qd s b) i j c) j with
   | none => rfl
   | some k =>
    rw [Option.isSome_some, if_pos rfl, ← hth i j c hc (by omega) (by rw [jA, QD]; rfl)]
    show some _ = some (match greatest i (kf (qd s a) (qd s b) i j c) j with | some k => (qd s b).leave k j ((qd s a).leave i k c) | none => c)
    rw [QD]
  ·have e : qd s (.two k a b) = kP (qd s a) (qd s b) := by rw [qd, if_neg hk]
   rw [if_neg hk]
   rw [e] at hth ⊢
   rw [fA i j c hc hi hj, fB i j c hc hi hj]
   have jA : (kP (qd s a) (qd s b)).ends i 0 c j = ((qd s a).ends i 0 c j || (qd s b).ends i 0 c j) := rfl
   have hw : (kP (qd s a) (qd s b)).walk i j c = if (qd s a).ends i 0 c j = true then (qd s a).leave i j c else (qd s b).leave i j c := rfl
   cases ha : (qd s a).ends i 0 c j with
   | true =>
    have he : (kP (qd s a) (qd s b)).ends i 0 c j = true := by rw [jA, ha]; rfl
    rw [he, ← hth i j c hc (by omega) he, hw, ha]; rfl
   | false =>
    cases hb : (qd s b).ends i 0 c j with
    | true =>
     have he : (kP (qd s a) (qd s b)).ends i 0 c j = true := by rw [jA, hb, Bool.or_true]
     rw [he, ← hth i j c hc (by omega) he, hw, ha]; rfl
    | false =>
     have he : (kP (qd s a) (qd s b)).ends i 0 c j = false := by rw [jA, ha, hb]; rfl
     rw [he]; rfl
 | .times m M t, h, h2 => fun i j c hc hi hj => by
  have hA := zw s t h.2
  have fA := ju s t h.2 h2.2
  have hth := U3 s (.times m M t) h
  have e : qd s (.times m M t) = jR s m M t.isBytes (qd s t) := rfl
  rw [e] at hth ⊢
  unfold zh
  have hM := h2.1
  ·rw [qgh hA fA h.1 hj (j - i) i 0 c hc hi (by omega) hM]
   have qB : vQ m M 0 = 0 := by unfold vQ; split <;> omega
   have jA : (jR s m M t.isBytes (qd s t)).ends i 0 c j = zc s (qd s t) m M (s.length - i) i 0 c j := by
    cases hb : t.isBytes with
    | none => rfl
    | some F =>
     cases t with
     | leaf x =>
      have hb' : (if x.kind = 1 then some x.set else none) = some F := hb
      split at hb'
      ·rename_i hx
       cases hb'
       have := qgj (s := s) hx h.1 (M := M) (s.length - i) i 0 c j (by omega) (by omega) hM
       rw [qB] at this
       exact this
      ·cases hb'
     | two _ _ _ => cases hb
     | times _ _ _ => cases hb
     | group _ _ => cases hb
   rw [qB, jA]
   by_cases hag : zc s (qd s t) m M (s.length - i) i 0 c j = true
   ·rw [if_pos hag, if_pos hag, ← hth i j c hc (by omega) (by rw [jA]; exact hag)]
    rfl
   ·rw [if_neg hag, if_neg hag]
 | .group n t, h, h2 => fun i j c hc hi hj => by
  have fA := ju s t h.2 h2
  have hth := U3 s (.group n t) h
  have e : qd s (.group n t) = ke n.toNat (qd s t) := rfl
  rw [e] at hth ⊢
  unfold zh
  rw [fA i j c hc hi hj]
  have jA : (ke n.toNat (qd s t)).ends i 0 c j = (qd s t).ends i 0 c j := rfl
  rw [jA]
  by_cases he : (qd s t).ends i 0 c j = true
  ·rw [if_pos he, if_pos he, ← hth i j c hc (by omega) (by rw [jA]; exact he)]
   rfl
  ·rw [if_neg he, if_neg he]; rfl
def gw (G : Gs) : Nat := pack G 10
theorem JZ (G : Gs) : gw G < 1024 := ZT G 10
theorem QM (G : Gs) (i : Nat) : (gw G).testBit i = (decide (i < 10) && G i) := js G 10 i
theorem J0 {G : Gs} {x : Nat} (hx : x < 1024) (h : ∀ i, i < 10 → x.testBit i = G i) : x = gw G := JB hx h
theorem Z7 {G H : Gs} (h : ∀ i, i < 10 → G i = H i) : gw G = gw H := kE h
theorem J1 (G H : Gs) : bits .or .u16 (gw G : Int) (gw H : Int) = (gw (fun g => G g || H g) : Int) := by
 have h1 := JZ G
 have h2 := JZ H
 rw [u16_or_nat _ _ (by omega) (by omega)]
 refine congrArg (fun x : Nat => (x : Int)) (J0 (Nat.or_lt_two_pow (n := 10) h1 h2) fun i hi => ?_)
 rw [Nat.testBit_or, QM, QM, decide_eq_true hi, Bool.true_and, Bool.true_and]
theorem qdM (G H : Gs) : bits .and .u16 (gw G : Int) (gw H : Int) = (gw (fun g => G g && H g) : Int) := by
 have h1 := JZ G
 have h2 := JZ H
 rw [u16_and_nat _ _ (by omega) (by omega)]
 refine congrArg (fun x : Nat => (x : Int)) (J0 (Nat.lt_of_le_of_lt Nat.and_le_left h1) fun i hi => ?_)
 rw [Nat.testBit_and, QM, QM, decide_eq_true hi, Bool.true_and, Bool.true_and]
theorem qi3 (G H : Gs) : bits .andNot .u16 (gw G : Int) (gw H : Int) = (gw (fun g => G g && !H g) : Int) := by
 have h1 := JZ G
 have h2 := JZ H
 rw [u16_andNot_nat _ _ (by omega) (by omega)]
 refine congrArg (fun x : Nat => (x : Int)) (J0 (Nat.lt_of_le_of_lt Nat.and_le_left h1) fun i hi => ?_)
 have e : 65535 - gw H = 2 ^ 16 - (gw H + 1) := by omega
 rw [Nat.testBit_and, QM, e, Nat.testBit_two_pow_sub_succ (by omega), QM, decide_eq_true hi, decide_eq_true (show i < 16 by omega), Bool.true_and, Bool.true_and, Bool.true_and]
theorem qdN {n : Nat} (h : n < 10) : (2 : Nat) ^ n < 1024 := Nat.pow_lt_pow_right (a := 2) (m := n) (n := 10) (by decide) h
theorem qdO {n : Nat} (h : n < 10) : IntKind.u16.wrap (2 ^ n) = (gw (fun g => decide (n = g)) : Int) := by
 have h2 := qdN h
 have e : ((2 : Int) ^ n) = (((2 : Nat) ^ n : Nat) : Int) := by simp
 rw [e, IntKind.wrap_u16]
 have e2 : 2 ^ n = gw (fun g => decide (n = g)) := J0 h2 fun i hi => by rw [Nat.testBit_two_pow]
 rw [← e2]
 omega
theorem qi4 (G : Gs) {n : Nat} (h : n < 10) : bits .and .u16 ((gw G : Int) / 2 ^ n) 1 = ((G n).toNat : Int) := by
 have h1 := JZ G
 have e : ((gw G : Int) / 2 ^ n) = ((gw G / 2 ^ n : Nat) : Int) := by simp
 have ZM : gw G / 2 ^ n ≤ gw G := Nat.div_le_self _ _
 rw [e, show (1 : Int) = ((1 : Nat) : Int) from rfl, u16_and_nat _ _ (by omega) (by omega), and1]
 have hb := QM G n
 rw [decide_eq_true h, Bool.true_and, Nat.testBit_eq_decide_div_mod_eq] at hb
 rw [← hb]
 have : gw G / 2 ^ n % 2 = 0 ∨ gw G / 2 ^ n % 2 = 1 := by omega
 rcases this with q | q <;> simp [q]
theorem yi {G : Gs} : gw G = 0 ↔ XP G = true := by
 rw [jg]
 constructor
 ·intro h g hg
  have := QM G g
  rw [h, Nat.zero_testBit, decide_eq_true hg, Bool.true_and] at this
  exact this.symm
 ·intro h
  refine (J0 (x := 0) (by omega) fun i hi => ?_).symm
  rw [Nat.zero_testBit, h i hi]
theorem qgk {G H : Gs} : gw (fun g => G g && H g) = 0 ↔ qdP G H = true := by
 rw [yi, jg, Z5]
 constructor
 ·intro h g hg q
  have := h g hg
  rw [q.1, q.2] at this
  cases this
 ·intro h g hg
  cases ha : G g with
  | false => rfl
  | true =>
   cases hb : H g with
   | false => rfl
   | true => exact absurd ⟨ha, hb⟩ (h g hg)
theorem qgl : gw (fun _ => false) = 0 := yi.2 (jg.2 fun _ _ => rfl)
theorem J2 {m M : Int} (h : zr m M = true) : 0 ≤ m ∧ (M = -1 ∨ (0 : Int) ≤ M) ∧ (M = -1 ∨ m ≤ M) := by
 unfold zr at h
 split at h
 ·cases h
 ·have := of_decide_eq_true h
  omega
theorem vp : ∀ t : T, t.Ok → Wy t ∧ VM t
 | .leaf x, ⟨h, _⟩ => ⟨fun hk => by
   unfold qY at h
   rw [if_neg (by omega), if_neg (by omega), if_neg (by omega), if_neg (by omega), if_neg (by omega), if_pos hk, Bool.and_eq_true] at h
   have := of_decide_eq_true h.1
   omega, trivial⟩
 | .two k a b, ⟨_, h1, h2⟩ => ⟨⟨(vp a h1).1, (vp b h2).1⟩, (vp a h1).2, (vp b h2).2⟩
 | .times m M t, ⟨h1, h2⟩ => ⟨⟨(J2 h1).1, (vp t h2).1⟩, (J2 h1).2.1, (vp t h2).2⟩
 | .group n t, ⟨h1, h2⟩ => ⟨⟨by have := of_decide_eq_true h1; omega, (vp t h2).1⟩, (vp t h2).2⟩
def jO (s : List UInt8) (t : T) (i j : Nat) : Cp := fun g => if g = 0 then some (i, j) else (qd s t).leave i j (fun _ => none) g
def QN : Nd := ⟨-1, 0, 0, 0, 0, 0, 0, 0, 0, 0⟩
def Qu (x : Nd) : Nd := if x.kind = 8 then QN else x
theorem qX : ∀ t : T, (loosen t).size = t.size
 | .leaf x => by
  unfold loosen
  split <;> rfl
 | .two k a b => by simp only [loosen, T.size, qX a, qX b]
 | .times m M t => by simp only [loosen, T.size, qX t]
 | .group n t => by simp only [loosen, T.size, qX t]
def T.Lok : T → Prop
 | .leaf x => x.kind = -1 ∨ x.kind = 0 ∨ x.kind = 1 ∨ x.kind = 2 ∨ x.kind = 3 ∨ (x.kind = 8 ∧ 1 ≤ x.n ∧ x.n ≤ 9)
 | .two k a b => (k = 4 ∨ k = 5) ∧ a.Lok ∧ b.Lok
 | .times m M t => zr m M = true ∧ t.Lok
 | .group n t => zR n = true ∧ t.Lok
theorem jS : ∀ t : T, t.Ok → t.Lok
 | .leaf x, ⟨h, hk⟩ => by
  rcases hk with k | k | k | k | k
  ·exact .inr (.inl k)
  ·exact .inr (.inr (.inl k))
  ·exact .inr (.inr (.inr (.inl k)))
  ·exact .inr (.inr (.inr (.inr (.inl k))))
  ·refine .inr (.inr (.inr (.inr (.inr ⟨k, ?_⟩))))
   unfold qY at h
   rw [if_neg (by omega), if_neg (by omega), if_neg (by omega), if_neg (by omega), if_neg (by omega), if_pos k, Bool.and_eq_true] at h
   exact of_decide_eq_true h.1
 | .two k a b, ⟨h, h1, h2⟩ => ⟨h, jS a h1, jS b h2⟩
 | .times m M t, ⟨h1, h2⟩ => ⟨h1, jS t h2⟩
 | .group n t, ⟨h1, h2⟩ => ⟨h1, jS t h2⟩
theorem jT : ∀ t : T, t.Lok → (loosen t).Lok
 | .leaf x, h => by
  unfold loosen
  split
  ·exact .inl rfl
  ·exact h
 | .two k a b, ⟨h, h1, h2⟩ => ⟨h, jT a h1, jT b h2⟩
 | .times m M t, ⟨h1, h2⟩ => ⟨h1, jT t h2⟩
 | .group n t, ⟨h1, h2⟩ => ⟨h1, jT t h2⟩
theorem kQ : ∀ t : T, t.Lok → Wy t ∧ VM t
 | .leaf x, h => by
  refine ⟨fun hk => ?_, trivial⟩
  rcases h with q | q | q | q | q | ⟨_, q1, q2⟩
  ·omega
  ·omega
  ·omega
  ·omega
  ·omega
  ·omega
 | .two k a b, ⟨_, h1, h2⟩ => ⟨⟨(kQ a h1).1, (kQ b h2).1⟩, (kQ a h1).2, (kQ b h2).2⟩
 | .times m M t, ⟨h1, h2⟩ => ⟨⟨(J2 h1).1, (kQ t h2).1⟩, (J2 h1).2.1, (kQ t h2).2⟩
 | .group n t, ⟨h1, h2⟩ => ⟨⟨by have := of_decide_eq_true h1; omega, (kQ t h2).1⟩, (kQ t h2).2⟩
def zT (l : Nat → Option Nd) (t : T) (i : Nat) : Prop := t.Lok ∧ ∃ o, T.At l t o ∧ i + 1 = o + t.size
theorem zT.node {l : Nat → Option Nd} {t : T} {i : Nat} (h : zT l t i) : ∃ o, l i = some (t.root o) ∧ i + 1 = o + t.size := by
 obtain ⟨_, o, ha, e⟩ := h
 have := ha.root
 rw [show o + t.size - 1 = i by omega] at this
 exact ⟨o, this, e⟩
theorem zT.two {l : Nat → Option Nd} {k : Int} {a b : T} {i : Nat} (h : zT l (.two k a b) i) : ∃ (p q : Nat), l i = some ⟨k, 0, 0, 0, 0, (p : Int), (q : Int), 0, 0, 0⟩ ∧ zT l a p ∧ zT l b q ∧ p < i ∧ q < i ∧ (k = 4 ∨ k = 5) := by
 obtain ⟨⟨hk, la, lb⟩, o, ⟨h1, h2, h3⟩, e⟩ := h
 have s1 := a.size_pos
 have s2 := b.size_pos
 simp only [T.size] at e
 refine ⟨o + a.size - 1, o + a.size + b.size - 1, ?_, ⟨la, o, h1, by omega⟩, ⟨lb, o + a.size, h2, by omega⟩, by omega, by omega, hk⟩
 rw [show i = o + a.size + b.size by omega, h3]
 simp only [T.root]
 rw [show (((o + a.size - 1 : Nat) : Int)) = (o : Int) + a.size - 1 by omega, show (((o + a.size + b.size - 1 : Nat) : Int)) = (o : Int) + a.size + b.size - 1 by omega]
theorem zT.times {l : Nat → Option Nd} {m M : Int} {t : T} {i : Nat} (h : zT l (.times m M t) i) : ∃ p : Nat, l i = some ⟨6, 0, 0, 0, 0, (p : Int), 0, m, M, 0⟩ ∧ zT l t p ∧ p < i ∧ zr m M = true := by
 obtain ⟨⟨hk, la⟩, o, ⟨h1, h3⟩, e⟩ := h
 have s1 := t.size_pos
 simp only [T.size] at e
 refine ⟨o + t.size - 1, ?_, ⟨la, o, h1, by omega⟩, by omega, hk⟩
 rw [show i = o + t.size by omega, h3]
 simp only [T.root]
 rw [show (((o + t.size - 1 : Nat) : Int)) = (o : Int) + t.size - 1 by omega]
theorem zT.group {l : Nat → Option Nd} {n : Int} {t : T} {i : Nat} (h : zT l (.group n t) i) : ∃ p : Nat, l i = some ⟨7, 0, 0, 0, 0, (p : Int), 0, 0, 0, n⟩ ∧ zT l t p ∧ p < i ∧ 1 ≤ n ∧ n ≤ 9 := by
 obtain ⟨⟨hk, la⟩, o, ⟨h1, h3⟩, e⟩ := h
 have s1 := t.size_pos
 simp only [T.size] at e
 refine ⟨o + t.size - 1, ?_, ⟨la, o, h1, by omega⟩, by omega, of_decide_eq_true hk⟩
 rw [show i = o + t.size by omega, h3]
 simp only [T.root]
 rw [show (((o + t.size - 1 : Nat) : Int)) = (o : Int) + t.size - 1 by omega]
theorem zT.leaf {l : Nat → Option Nd} {x : Nd} {i : Nat} (h : zT l (.leaf x) i) : l i = some x := by
 obtain ⟨o, h1, h2⟩ := h.node
 exact h1
def Qj (a : Nat → Nat → Bool) (m M : Int) (j : Nat) : Nat → Nat → Nat → Bool
 | 0, c, p => decide (p = j) && (decide (m ≤ (c : Int)) || a j j)
 | f + 1, c, p => if p = j then decide (m ≤ (c : Int)) || a j j else decide (M = -1 ∨ (c : Int) < M) && zZ (p + 1) j fun k => a p k && Qj a m M j f (c + 1) k
def qds (n : Nat) (f : Nat → Nat → Cp → Option Cp) (a : Nat → Nat → Bool) : Prop := ∀ i j c, qo n c → i ≤ j → j ≤ n → (f i j c).isSome = a i j ∧ ∀ d, f i j c = some d → qo n d
theorem KL {a : Nat} {f : Nat → Option Cp} {g : Nat → Bool} : ∀ (b : Nat), (∀ k, a ≤ k → k ≤ b → (f k).isSome = g k) → (jy a f b).isSome = zZ a b g
 | 0, h => by
  unfold jy
  by_cases h0 : a = 0
  ·rw [if_pos h0, h 0 (by omega) (Nat.le_refl _), Bool.eq_iff_iff, qF]
   constructor
   ·intro q; exact ⟨0, by omega, Nat.le_refl _, q⟩
   ·rintro ⟨k, _, h2, h3⟩
    obtain rfl : k = 0 := by omega
    exact h3
  ·rw [if_neg h0, yy (by omega)]; rfl
 | b + 1, h => by
  unfold jy
  by_cases h0 : a ≤ b + 1
  ·rw [if_pos h0]
   have ih := KL (a := a) (f := f) (g := g) b (fun k k1 k2 => h k k1 (by omega))
   have hb := h (b + 1) h0 (Nat.le_refl _)
   cases hf : f (b + 1) with
   | some x =>
    rw [hf] at hb
    symm
    show zZ a (b + 1) g = true
    rw [qF]
    exact ⟨b + 1, h0, Nat.le_refl _, hb.symm⟩
   | none =>
    rw [hf] at hb
    show (jy a f b).isSome = _
    rw [ih, Bool.eq_iff_iff, qF, qF]
    constructor
    ·rintro ⟨k, h1, h2, h3⟩; exact ⟨k, h1, by omega, h3⟩
    ·rintro ⟨k, h1, h2, h3⟩
     by_cases e : k = b + 1
     ·subst e; rw [h3] at hb; cases hb
     ·exact ⟨k, h1, by omega, h3⟩
  ·rw [if_neg h0, yy (by omega)]; rfl
theorem qdw {n : Nat} {f : Nat → Nat → Cp → Option Cp} {a : Nat → Nat → Bool} (hf : qds n f a) {m M : Int} {j : Nat} (hj : j ≤ n) : ∀ (fs fu p d : Nat) (c : Cp), qo n c → p ≤ j → j ≤ fs + p → j ≤ fu + p → Qj a m M j fs d p = (j7 f m M fu p j d c).isSome := by
 have Wj : ∀ (fs fu d : Nat) (c : Cp), qo n c → Qj a m M j fs d j = (j7 f m M fu j j d c).isSome := by
  intro fs fu d c hc
  have e1 : Qj a m M j fs d j = (decide (m ≤ (d : Int)) || a j j) := by
   cases fs with
   | zero => simp [Qj]
   | succ f => simp [Qj]
  rw [e1]
  unfold j7
  by_cases h : m ≤ (d : Int)
  ·rw [if_pos ⟨rfl, h⟩, decide_eq_true h]; rfl
  ·rw [if_neg (fun q => h q.2), if_pos rfl, (hf j j c hc (Nat.le_refl _) hj).1, decide_eq_false h, Bool.false_or]
 intro fs
 induction fs with
 | zero =>
  intro fu p d c hc hp h1 h2
  obtain rfl : p = j := by omega
  exact Wj 0 fu d c hc
 | succ fs ih =>
  intro fu p d c hc hp h1 h2
  by_cases Jb : p = j
  ·subst Jb; exact Wj _ fu d c hc
  obtain ⟨fu', rfl⟩ : ∃ k, fu = k + 1 := ⟨fu - 1, by omega⟩
  rw [Qj, if_neg Jb, Q5, if_neg (fun q => Jb q.1), if_neg Jb]
  by_cases hM : M ≠ -1 ∧ M ≤ (d : Int)
  ·rw [if_pos hM, decide_eq_false (by omega)]; rfl
  ·rw [if_neg hM, decide_eq_true (by omega), Bool.true_and]
   symm
   refine KL j fun k k1 k2 => ?_
   show ((f p k c).bind _).isSome = _
   have h3 := hf p k c hc (by omega) (by omega)
   cases hq : f p k c with
   | none =>
    rw [hq] at h3
    rw [← h3.1]; rfl
   | some e =>
    rw [hq] at h3
    rw [← h3.1]
    show (j7 f m M fu' k j (d + 1) e).isSome = (true && _)
    rw [Bool.true_and]
    exact (ih fu' k (d + 1) e (h3.2 e rfl) k2 (by omega) (by omega)).symm
theorem Zb (s : List UInt8) : ∀ t : T, t.refs = 0 → ∀ g, (qd s t).asked g = false
 | .leaf x, h, g => by
  simp only [T.refs] at h
  by_cases hk : x.kind = 8
  ·rw [if_pos hk] at h; cases h
  ·show (decide (x.kind = 8) && decide (x.n.toNat = g)) = false
   rw [decide_eq_false hk]; rfl
 | .two k a b, h, g => by
  simp only [T.refs] at h
  have ha := Zb s a (by omega) g
  have hb := Zb s b (by omega) g
  by_cases hk : k = 4
  ·rw [show qd s (.two k a b) = jm s (qd s a) (qd s b) by rw [qd, if_pos hk]]
   show ((qd s a).asked g || ((qd s b).asked g && !(qd s a).always g)) = false
   rw [ha, hb]; rfl
  ·rw [show qd s (.two k a b) = kP (qd s a) (qd s b) by rw [qd, if_neg hk]]
   show ((qd s a).asked g || (qd s b).asked g) = false
   rw [ha, hb]; rfl
 | .times m M t, h, g => Zb s t h g
 | .group n t, h, g => Zb s t h g
theorem vG (s : List UInt8) (t : T) (h : Wy t) (hx : VM t) (hr : t.refs = 0) : qds s.length (zh s t) (fun i j => (qd s t).ends i 0 (fun _ => none) j) := fun i j c hc hi hj => by
 have hS := zw s t h
 rw [ju s t h hx i j c hc hi hj, hS.ask i 0 c (fun _ => none) hc qo.none (by omega) (fun g hg => by rw [Zb s t hr g] at hg; cases hg)]
 constructor
 ·split
  ·rename_i q; exact q.symm
  ·rename_i q; rw [Bool.not_eq_true] at q; exact q.symm
 ·intro d hd
  split at hd
  ·cases hd; exact hS.leave_cap hc hi hj
  ·cases hd
end Go.Proofs.YtjgegohidhdbpaaGreatDoor
