/- What a trial's numbers need; its trees. -/
import Derived.Test.YtjgegohidhdbpaaGreatDoorJMcV
import Derived.Test.YtjgegohidhdbpaaGreatDoorJSetJ
import Derived.Test.YtjgegohidhdbpaaGreatDoorJRxTj
open Go.Proofs.Tryz
set_option linter.unusedVariables false
set_option linter.unusedSimpArgs false
set_option maxRecDepth 100000
set_option maxHeartbeats 40000000
namespace Go.Proofs.YtjgegohidhdbpaaGreatDoor
open Go.RowKit Go.Maps Go.WideMaps
def Xw (d : Nat → Nat) : Nat → Nat
 | 0 => 0
 | m + 1 => d 0 + 29 * Xw (fun i => d (i + 1)) m
 where dummy : Unit := ()
theorem Yw : ∀ (m : Nat) (d : Nat → Nat), (∀ i, d i < 29) → Xw d m < 29 ^ m ∧ ∀ i, i < m → Xw d m / 29 ^ i % 29 = d i
 | 0, d, _ => ⟨by simp [Xw], fun i hi => by omega⟩
 | m + 1, d, h => by
  obtain ⟨h1, h2⟩ := Yw m (fun i => d (i + 1)) (fun i => h (i + 1))
  have h0 := h 0
  refine ⟨?_, fun i hi => ?_⟩
  ·show d 0 + 29 * Xw (fun i => d (i + 1)) m < 29 ^ (m + 1)
   rw [Nat.pow_succ]
   omega
  ·show (d 0 + 29 * Xw (fun i => d (i + 1)) m) / 29 ^ i % 29 = d i
   cases i with
   | zero => simp; omega
   | succ i =>
    rw [Nat.pow_succ, Nat.mul_comm (29 ^ i) 29, ← Nat.div_div_eq_div_mul, show (d 0 + 29 * Xw (fun i => d (i + 1)) m) / 29 = Xw (fun i => d (i + 1)) m by omega]
    exact h2 i (by omega)
def qgE : List (Int × Int) := [(-1, -1), (0, 0), (0, 1), (1, 1), (0, 2), (1, 2), (2, 2), (0, 3), (1, 3), (2, 3), (3, 3), (0, 4), (1, 4), (2, 4), (3, 4), (4, 4), (0, 5), (1, 5), (2, 5), (3, 5), (4, 5), (5, 5), (0, 6), (1, 6), (2, 6), (3, 6), (4, 6), (5, 6), (6, 6)]
def Xx (d : Nat) : Int × Int := qgE.getD d (0, 0)
theorem qei : ∀ a : Fin 7, ∀ b : Fin 7, a ≤ b → ∃ d : Fin 29, Xx d = ((a.val : Int), (b.val : Int)) := by decide +kernel
theorem Gl {P Q : Nat → Int × Int} (h : ∀ g, g < 10 → P g = Q g) : pkey P = pkey Q := by
 have e : WN P = WN Q := by
  unfold WN
  rw [h 0 (by omega), h 1 (by omega), h 2 (by omega), h 3 (by omega), h 4 (by omega), h 5 (by omega), h 6 (by omega), h 7 (by omega), h 8 (by omega), h 9 (by omega)]
 unfold pkey
 rw [e]
theorem Ue (len N : Nat) (hN : N = 29 ^ 9) (hl : len ≤ 6) : ∃ code : Lit → Nat, (∀ l m, okP len l → okP len m → code l = code m → l = m) ∧ ∀ l, okP len l → code l < N := by
 refine qhA (fun k => pkey (fun g => if g = 0 then (0, 0) else Xx (k / 29 ^ (g - 1) % 29))) _ _ ?_
 rintro l ⟨G, had, hG, hc, hl2⟩
 rw [hl2]
 have hd : ∀ g, ∃ d, d < 29 ∧ Xx d = partsOf G had g := fun g => by
  unfold partsOf
  split
  ·cases hh : had g with
   | none => exact ⟨0, by omega, rfl⟩
   | some ab =>
    obtain ⟨a, b⟩ := ab
    obtain ⟨h1, h2⟩ := hc g a b hh
    obtain ⟨d, hd⟩ := qei ⟨a, by omega⟩ ⟨b, by omega⟩ (by show a ≤ b; exact h1)
    exact ⟨d.val, d.isLt, hd⟩
  ·exact ⟨1, by omega, rfl⟩
 obtain ⟨D, hD⟩ : ∃ D : Nat → Nat, ∀ g, D g < 29 ∧ Xx (D g) = partsOf G had g := ⟨fun g => Classical.choose (hd g), fun g => Classical.choose_spec (hd g)⟩
 obtain ⟨h1, h2⟩ := Yw 9 (fun i => D (i + 1)) (fun i => (hD (i + 1)).1)
 refine ⟨Xw (fun i => D (i + 1)) 9, by rw [hN]; exact h1, Gl fun g hg => ?_⟩
 by_cases e : g = 0
 ·subst e
  rw [if_pos rfl]
  unfold partsOf
  cases hq : G 0 with
  | false => rfl
  | true => have := (hG 0 hq).1; omega
 ·rw [if_neg e, h2 (g - 1) (by omega), show g - 1 + 1 = g by omega]
  exact (hD g).2
theorem yD (s : List UInt8) : ∀ (t : T), t.Lok → ∀ g, (qd s t).asked g = true → 1 ≤ g
 | .leaf x, h, g, ha => by
  simp only [qd, zi, Bool.and_eq_true, decide_eq_true_eq] at ha
  have h' : x.kind = -1 ∨ x.kind = 0 ∨ x.kind = 1 ∨ x.kind = 2 ∨ x.kind = 3 ∨ (x.kind = 8 ∧ 1 ≤ x.n ∧ x.n ≤ 9) := h
  omega
 | .two k a b, ⟨hk, h1, h2⟩, g, ha => by
  have i1 := yD s a h1 g
  have i2 := yD s b h2 g
  simp only [qd] at ha
  split at ha
  ·simp only [jm, Bool.or_eq_true, Bool.and_eq_true] at ha
   rcases ha with q | q
   ·exact i1 q
   ·exact i2 q.1
  ·simp only [kP, Bool.or_eq_true] at ha
   rcases ha with q | q
   ·exact i1 q
   ·exact i2 q
 | .times m M t, ⟨_, h⟩, g, ha => yD s t h g ha
 | .group n t, ⟨_, h⟩, g, ha => yD s t h g ha
theorem jV {l : Nat → Option Nd} : ∀ (t : T) (o : Nat), t.Lok → T.At l t o → T.At (fun i => (l i).map Qu) (loosen t) o
 | .leaf x, o, _, h => by
  have h' : l o = some x := h
  unfold loosen
  by_cases hk : x.kind = 8
  ·rw [if_pos hk]
   show (l o).map Qu = some _
   rw [h', Option.map_some, Qu, if_pos hk]; rfl
  ·rw [if_neg hk]
   show (l o).map Qu = some _
   rw [h', Option.map_some, Qu, if_neg hk]
 | .two k a b, o, ⟨hk, ha, hb⟩, ⟨h1, h2, h3⟩ => by
  refine ⟨jV a o ha h1, by rw [qX]; exact jV b _ hb h2, ?_⟩
  rw [qX, qX]
  show (l (o + a.size + b.size)).map Qu = _
  rw [h3, Option.map_some, Qu, if_neg (show ¬ (T.root (.two k a b) o).kind = 8 by show ¬ k = 8; omega)]
  show some (T.root (.two k a b) o) = some (T.root (.two k (loosen a) (loosen b)) o)
  simp only [T.root, qX]
 | .times m M t, o, ⟨_, ht⟩, ⟨h1, h3⟩ => by
  refine ⟨jV t o ht h1, ?_⟩
  rw [qX]
  show (l (o + t.size)).map Qu = _
  rw [h3, Option.map_some, Qu, if_neg (show ¬ (T.root (.times m M t) o).kind = 8 by show ¬ (6 : Int) = 8; omega)]
  show some (T.root (.times m M t) o) = some (T.root (.times m M (loosen t)) o)
  simp only [T.root, qX]
 | .group n t, o, ⟨_, ht⟩, ⟨h1, h3⟩ => by
  refine ⟨jV t o ht h1, ?_⟩
  rw [qX]
  show (l (o + t.size)).map Qu = _
  rw [h3, Option.map_some, Qu, if_neg (show ¬ (T.root (.group n t) o).kind = 8 by show ¬ (7 : Int) = 8; omega)]
  show some (T.root (.group n t) o) = some (T.root (.group n (loosen t)) o)
  simp only [T.root, qX]
theorem zT.loosen {xs : List Nd} {t : T} {i : Nat} (h : zT (fun i => xs[i]?) t i) : zT (fun i => (xs.map Qu)[i]?) (loosen t) i := by
 obtain ⟨h1, o, h2, h3⟩ := h
 refine ⟨jT t h1, o, ?_, by rw [qX]; exact h3⟩
 have := jV t o h1 h2
 have e : (fun i : Nat => (xs.map Qu)[i]?) = fun i => (xs[i]?).map Qu := by funext i; rw [List.getElem?_map]
 rw [e]; exact this
theorem qej : ∀ x : Nd, qY x = true → x.kind ≠ -1 := fun x h e => by
 unfold qY at h
 simp [e] at h
theorem qgF {xs : List Nd} (h : ∀ (i : Nat) (x : Nd), xs[i]? = some x → qY x = true) : ∀ (i : Nat) (x : Nd), (xs.map Qu)[i]? = some x → x.kind = -1 → x = QN := fun i x hx hk => by
 rw [List.getElem?_map] at hx
 cases hy : xs[i]? with
 | none => rw [hy] at hx; cases hx
 | some y =>
  rw [hy] at hx; cases hx
  unfold Qu at hk ⊢
  by_cases h8 : y.kind = 8
  ·rw [if_pos h8]
  ·rw [if_neg h8] at hk
   exact absurd hk (qej y (h i y hy))
theorem qek {v : kU} {s : List UInt8} {xs : List Nd} {P1 : Lit → Prop} (t : T) (hL : t.Lok) (hA : T.At (fun i => xs[i]?) t 0) (hs : t.size = xs.length) (hn : xs.length ≤ 120) (hv : v.n = xs.length) (jp : s.length ≤ 255) (qM : ∀ (i : Nat) (x : Nd), xs[i]? = some x → x.Fits)
  (hP : ∀ (u : T) (had : Cp), u.Lok → qo s.length had → XP (qd s u).asked ≠ true → (∃ i, zT (fun i => xs[i]?) u i) → P1 (pkey (partsOf (qd s u).asked had))) : Fx v s xs 255 P1 where
 len := hv.symm
 n1 := by have := t.size_pos; omega
 n2 := by omega
 sl := by omega
 sub := fun i hi => Qb t 0 hL hA i (Nat.zero_le _) (by omega)
 fits := qM
 ok := fun i u hi hu => ⟨(kQ u hu.1).1, zw s u (kQ u hu.1).1, fun g hg => yD s u hu.1 g hg⟩
 P1 := fun i u had hi (hu : zT (fun i => xs[i]?) u i) hc hn => hP u had hu.1 hc hn ⟨i, hu⟩
 B1 := by omega
 B2 := jp
 B3 := by omega
theorem yE {l : Nat → Option Nd} : ∀ (u : T) (o : Nat), T.At l u o → 0 < u.refs → ∃ (j : Nat) (x : Nd), l j = some x ∧ x.kind = 8
 | .leaf x, o, ha, hr => by
  have ha' : l o = some x := ha
  simp only [T.refs] at hr
  by_cases h8 : x.kind = 8
  ·exact ⟨o, x, ha', h8⟩
  ·rw [if_neg h8] at hr; omega
 | .two k a b, o, ⟨a1, a2, _⟩, hr => by
  simp only [T.refs] at hr
  rcases (by omega : 0 < a.refs ∨ 0 < b.refs) with h | h
  ·exact yE a o a1 h
  ·exact yE b _ a2 h
 | .times m M t, o, ⟨a1, _⟩, hr => yE t o a1 hr
 | .group n t, o, ⟨a1, _⟩, hr => yE t o a1 hr
structure K6 (X : Nat) (v : kU) (s : List UInt8) (t : T) (M2 : Nat → Prop) (J : (Nat → Prop) → List Lit → World → Prop) : Prop where
 n : v.n = t.size
 n2 : v.n ≤ 120
 sl : s.length ≤ 255
 tr : ∀ {E es w}, J E es w → km w X v s
 tab : ∀ {E es w}, J E es w → TabAt 0 Lib.deBruijn64tab w
 lt : ∀ {E es w}, J E es w → ∀ b, (Mt v b ∨ M2 b) → b < w.heap.size
 mono : ∀ {E E' es w}, J E es w → (∀ b, E' b → E b) → J E' es w
 fresh : ∀ {E es w}, J E es w → J (fun b => E b ∨ w.heap.size ≤ b) es w
 keeps : ∀ {E es w w'}, J E es w → qb E w w' → J E es w'
 ok : vt s.length (qd s t)
 cnt : zz t 0
 go : ∀ k, k ≤ s.length → GoC X v s 255 M2 J (t.size - 1) t k
 leave : ∀ p j, p ≤ j → j ≤ s.length → kX X v s M2 J (t.size - 1) t p j
theorem Iv.relp {X : Nat} {v : kU} {s : List UInt8} {xs : List Nd} {B : Nat} {c1 : Lit → Nat} {n1 : Nat} {P1 : Lit → Prop} {c2 : Lit → Nat} {n2 : Nat} {E : Nat → Prop} {es : List Lit} {w : World} (h : Iv X v s xs B c1 n1 P1 c2 n2 E es w) (hX : X ≠ v.lb) (hX0 : X ≠ 0) (hn : 1 ≤ v.n) (q : Option Addr) :
  Iv X ⟨v.lb, v.lo, v.n, v.lc, v.rb, v.bn, v.br, v.bl, q⟩ s xs B c1 n1 P1 c2 n2 E es (w.setCell ⟨X, 6, none⟩ (.pointer q)) := by
 have k : ∀ b, b ≠ X → (w.setCell ⟨X, 6, none⟩ (.pointer q)).heap[b]? = w.heap[b]? := fun b hb => Below.heap_setCell w ⟨X, 6, none⟩ _ b hb
 obtain ⟨F, hF, Z3⟩ := h.roles
 obtain ⟨L, h1, h2⟩ := h.reach
 obtain ⟨L', h3, h4⟩ := h.left
 have hrb : v.rb ≠ X := fun e => by
  have a := hF.cell 0 (by omega)
  rw [e, h.tr.c0] at a; cases a
 have hm : ∀ b, (∀ j, w.cell? ⟨b, j, none⟩ = none) → b ≠ X := fun b hb e => by
  have a := hb 0
  rw [e, h.tr.c0] at a; cases a
 refine ⟨⟨?_⟩, h.nodes.heap_ok (k _ (Ne.symm hX)), ⟨F, ⟨(k _ hrb).trans hF.heap⟩, Z3⟩, fun j hj => ?_, h.nd, h.ky, h.nums.of_heap (k _ (hm _ h.nums.noCell)), ⟨L, h1.of_heap (k _ (hm _ h1.noCell)), fun n p c q u hr hu => ?_⟩, ⟨L', h3.of_heap (k _ (hm _ h3.noCell)), h4⟩, h.out, h.ne⟩
 ·show (w.setCell ⟨X, 6, none⟩ (.pointer q)).heap[X]? = _
  rw [heap_setCell_same _ X 6 _ _ _ h.tr.heap]
  rfl
 ·have := h.tab j hj
  rw [← this]
  simp only [World.cell?, k 0 (Ne.symm hX0)]
 ·obtain ⟨b, t, had, a1, a2, a3, a4, a5, a6, a7⟩ := h2 n p c q u hr hu
  refine ⟨b, t, had, a1, a2, a3, a4, a5, a6, a7.heap_ok (k b fun e => ?_)⟩
  have a := a7.cell 0 (by omega)
  rw [e, h.tr.c0] at a; cases a
theorem Gm {X : Nat} {v : kU} {s : List UInt8} {xs : List Nd} {c1 : Lit → Nat} {n1 : Nat} {P1 : Lit → Prop} {c2 : Lit → Nat} {n2 : Nat} (t : T) (ht : zT (fun i => xs[i]?) t (t.size - 1)) (hv : v.n = t.size) (jp : s.length ≤ 255) (fx : Fx v s xs 255 P1) (Ye : v.lp = none) (Jc : ∀ (i : Nat) (x : Nd), xs[i]? = some x → x.kind = -1 → x = QN) :
  K6 X v s t (fun _ => False) (fun E es w => Iv X v s xs 255 c1 n1 P1 c2 n2 E es w) := by
 have Zl := t.size_pos
 have yJ := fun (i : Nat) (hi : i < v.n) (u : T) (hu : zT (fun i => xs[i]?) u i) => Yx (X := X) (c1 := c1) (n1 := n1) (c2 := c2) (n2 := n2) fx Ye Jc i hi u hu
 have hr := yJ (t.size - 1) (by omega) t ht
 refine ⟨hv, fx.n2, jp, fun h => h.tr, fun h => h.tab, fun h b hb => ?_, fun h => h.mono, fun h => h.fresh, fun h => h.keeps, (fx.ok _ t (by omega) ht).2.1, Jf ht.1, fun k hk => ?_, hr.2⟩
 ·obtain ⟨l1, l2, l3, l4, l5, l6, l7⟩ := h.lts
  rcases hb with (hb | hb | hb) | hb
  ·omega
  ·omega
  ·omega
  ·exact hb.elim
 ·exact Yd QT fx Ye (t.size - 1) k t (by omega) hk (qao QT fx (t.size - 1) k t (by omega) hk ht (hr.1 k hk))
theorem Gn {X X2 : Nat} {v v2 : kU} {s : List UInt8} {xs : List Nd} {c1 : Lit → Nat} {n1 : Nat} {P1 : Lit → Prop} {c2 : Lit → Nat} {n2 : Nat} {d1 : Lit → Nat} {m1 : Nat} {Q1 : Lit → Prop} {d2 : Lit → Nat} {m2 : Nat} (t : T) (ht : zT (fun i => xs[i]?) t (t.size - 1)) (hv : v.n = t.size) (UD : v2.n = v.n) (jp : s.length ≤ 255) (fx : Fx v s xs 255 P1) (fx2 : Fx v2 s (xs.map Qu) 255 Q1) (Ye : v.lp = some ⟨X2, 0, none⟩) (qbF : v2.lp = none)
  (Jc : ∀ (i : Nat) (x : Nd), xs[i]? = some x → x.kind = -1 → x = QN) (qlI : ∀ (i : Nat) (x : Nd), (xs.map Qu)[i]? = some x → x.kind = -1 → x = QN) :
  K6 X v s t (Mt v2) (JL X X2 v v2 s xs (xs.map Qu) 255 c1 n1 P1 c2 n2 d1 m1 Q1 d2 m2) := by
 have Zl := t.size_pos
 have jx : JX X v s xs 255 c1 n1 P1 c2 n2 (Mt v2) (JL X X2 v v2 s xs (xs.map Qu) 255 c1 n1 P1 c2 n2 d1 m1 Q1 d2 m2) := Uf
 have Qq : ∀ (n k : Nat) (u : T), n < v.n → k ≤ s.length → zT (fun i => xs[i]?) u n → jI X2 v2 s 255 (fun _ => False) (fun E es w => Iv X2 v2 s (xs.map Qu) 255 d1 m1 Q1 d2 m2 E es w) n (loosen u) k := fun n k u hn hk hu => by
  have h2 := Yx (X := X2) (c1 := d1) (n1 := m1) (c2 := d2) (n2 := m2) fx2 qbF qlI n (by omega) (loosen u) hu.loosen
  exact Z4 QT fx2 n k (loosen u) (by omega) hk hu.loosen (h2.1 k hk)
 have VT : ∀ (n k : Nat) (u : T), n < v.n → k ≤ s.length → zT (fun i => xs[i]?) u n → zA X v s 255 (Mt v2) (JL X X2 v v2 s xs (xs.map Qu) 255 c1 n1 P1 c2 n2 d1 m1 Q1 d2 m2) 113 n u k → GoC X v s 255 (Mt v2) (JL X X2 v v2 s xs (xs.map Qu) 255 c1 n1 P1 c2 n2 d1 m1 Q1 d2 m2) n u k :=
  fun n k u hn hk hu hA => Gp fx fx2 Ye n k u hn hk (fx.ok n u hn hu).1 hA (Qq n k u hn hk hu)
 have hr := Yy jx fx Jc VT (Ug fx) (t.size - 1) (t.size - 1) (Nat.le_refl _) (by omega) t ht
 refine ⟨hv, fx.n2, jp, fun h => h.1.tr, fun h => h.1.tab, fun h b hb => ?_, fun h hE => jx.mono h hE, fun h => jx.fresh h, fun h k => jx.keeps h k, (fx.ok _ t (by omega) ht).2.1, Jf ht.1, fun k hk => ?_, hr.2⟩
 ·obtain ⟨l1, l2, l3, l4, l5, l6, l7⟩ := h.1.lts
  rcases hb with (hb | hb | hb) | hb
  ·omega
  ·omega
  ·omega
  ·exact (jx.lt h b hb).1
 ·exact VT (t.size - 1) k t (by omega) hk ht (qao jx fx (t.size - 1) k t (by omega) hk ht (hr.1 k hk))
theorem Yz : maxLen = 9223372036854775807 := by decide
theorem Uh {xs : List Nd} {t : T} (hp : qN xs t) (h0 : t.refs = 0) {u : T} {i : Nat} (hu : zT (fun i => xs[i]?) u i) : u.refs = 0 := by
 rcases Nat.eq_zero_or_pos u.refs with h | h
 ·exact h
 ·exfalso
  obtain ⟨_, o, h2, _⟩ := hu
  obtain ⟨j, x, a1, a2⟩ := yE u o h2 h
  have := (ji t 0 hp.1 hp.2.1).2
  rw [Nat.zero_add, hp.2.2.1] at this
  have hr := this.1 ⟨j, x, (List.getElem?_eq_some_iff.1 a1).1, a1, a2⟩
  rcases hr with ⟨j, x, q, _⟩ | q
  ·omega
  ·omega
theorem qaC {xs : List Nd} {t : T} (hp : qN xs t) : jN xs xs.length ↔ 0 < t.refs := by
 have := (ji t 0 hp.1 hp.2.1).2
 rw [Nat.zero_add, hp.2.2.1] at this
 rw [this]
 constructor
 ·rintro (⟨j, x, q, _⟩ | q)
  ·omega
  ·exact q
 ·exact .inr
theorem Ui {xs : List Nd} {t : T} (hp : qN xs t) : zT (fun i => xs[i]?) t (t.size - 1) := ⟨jS t hp.1, 0, hp.2.1, by have := t.size_pos; omega⟩
theorem qel {xs : List Nd} (h : ∀ (i : Nat) (x : Nd), xs[i]? = some x → x.Fits) : ∀ (i : Nat) (x : Nd), (xs.map Qu)[i]? = some x → x.Fits := fun i x hx => by
 rw [List.getElem?_map] at hx
 cases hy : xs[i]? with
 | none => rw [hy] at hx; cases hx
 | some y =>
  rw [hy] at hx; cases hx
  unfold Qu
  split
  ·unfold QN
   constructor <;> simp
  ·exact h i y hy
theorem qem {v : kU} {s : List UInt8} {xs : List Nd} {t : T} (hp : qN xs t) (h0 : t.refs = 0) (hv : v.n = xs.length) (jp : s.length ≤ 255) (qM : ∀ (i : Nat) (x : Nd), xs[i]? = some x → x.Fits) : Fx v s xs 255 (fun _ => False) :=
 qek t (jS t hp.1) hp.2.1 hp.2.2.1 hp.2.2.2.1 hv jp qM fun u had hL hc hn ⟨i, hu⟩ => hn (Xy (fun g => Zb s u (Uh hp h0 hu) g))
theorem qgG {v : kU} {s : List UInt8} {xs : List Nd} {t : T} (hp : qN xs t) (hv : v.n = xs.length) (jp : s.length ≤ 255) (qM : ∀ (i : Nat) (x : Nd), xs[i]? = some x → x.Fits) : Fx v s xs 255 (okP s.length) :=
 qek t (jS t hp.1) hp.2.1 hp.2.2.1 hp.2.2.2.1 hv jp qM fun u had hL hc hn _ => ⟨_, had, fun g hg => ⟨yD s u hL g hg, (zw s u (kQ u hL).1).ten g (.inl hg)⟩, hc, rfl⟩
theorem qjt {xs : List Nd} {t : T} (hp : qN xs t) : T.At (fun i => (xs.map Qu)[i]?) (loosen t) 0 := by
 have := jV t 0 (jS t hp.1) hp.2.1
 have e : (fun i : Nat => (xs.map Qu)[i]?) = fun i => (xs[i]?).map Qu := by funext i; rw [List.getElem?_map]
 rw [e]; exact this
theorem qen {v : kU} {s : List UInt8} {xs : List Nd} {t : T} (hp : qN xs t) (hv : v.n = xs.length) (jp : s.length ≤ 255) (qM : ∀ (i : Nat) (x : Nd), xs[i]? = some x → x.Fits) : Fx v s (xs.map Qu) 255 (fun _ => False) := by
 refine qek (loosen t) (jT t (jS t hp.1)) (qjt hp) (by rw [qX, List.length_map]; exact hp.2.2.1) (by rw [List.length_map]; exact hp.2.2.2.1) (by rw [List.length_map]; exact hv) jp (qel qM) fun u had hL hc hn hu => hn (Xy (fun g => ?_))
 obtain ⟨i, hu⟩ := hu
 have hi : i < xs.length := by
  obtain ⟨o, q1, q2⟩ := hu.node
  have := (List.getElem?_eq_some_iff.1 q1).1
  rw [List.length_map] at this; exact this
 obtain ⟨u', hu'⟩ := Qb t 0 (jS t hp.1) hp.2.1 i (Nat.zero_le _) (by rw [hp.2.2.1]; omega)
 rw [va u (loosen u') i hu hu'.loosen]
 exact ve s u' g
theorem qaD {xs : List Nd} {t : T} (hp : qN xs t) : ∀ (i : Nat) (x : Nd), xs[i]? = some x → x.kind = -1 → x = QN := fun i x hx hk => absurd hk (qej x (hp.2.2.2.2.1 i x hx))
theorem ZJ (lb lo lc : Nat) (s : List UInt8) (xs : List Nd) (t : T) (hp : qN xs t) (qM : ∀ (i : Nat) (x : Nd), xs[i]? = some x → x.Fits) (jp : s.length ≤ 255) (W0 : 0 < t.refs → s.length ≤ 6 ∧ xs.length ≤ 24) (w : World) (hx : qn w lb lo xs) (hT : TabAt 0 Lib.deBruijn64tab w) (h0 : 0 < w.heap.size) :
  Calls prog 34 #[.slice (some ⟨lb, lo, none⟩) xs.length lc, .string ⟨s.toArray⟩] w fun e w' => ∃ (X : Nat) (v : kU) (M2 : Nat → Prop) (J : (Nat → Prop) → List Lit → World → Prop), e = .returned (.pointer (some ⟨X, 0, none⟩)) ∧ K6 X v s t M2 J ∧ J (fun _ => False) [] w' ∧ (∀ b, (Mt v b ∨ M2 b) → w.heap.size ≤ b) ∧ Below w.heap.size w w' := by
 have h1 : 1 ≤ xs.length := by have := t.size_pos; have := hp.2.2.1; omega
 have h2 := hp.2.2.2.1
 have J9 : ∀ i, i < xs.length → ∃ t, zT (fun i => xs[i]?) t i := fun i hi => Qb t 0 (jS t hp.1) hp.2.1 i (Nat.zero_le _) (by rw [hp.2.2.1]; omega)
 have lx := hx.lt
 have KM := ξ hx
 have HTT := ξ hT
 have HP := ξ hp
 rcases Nat.eq_zero_or_pos t.refs with hr | hr
 ·obtain ⟨c2, Jh, hl2⟩ := QU xs.length s.length 255 0
  have UZ : xs.length * (s.length + 1) * (255 + 1) * (0 + 1) < maxLen := by
   have : xs.length * (s.length + 1) ≤ 120 * 256 := Nat.mul_le_mul h2 (by omega)
   rw [Yz]; omega
  have HC := ξ (KS (s := s) (B := 255) (c1 := fun _ => 0) (n1 := 0) (P1 := fun _ => False) lb lo xs.length lc rfl h1 h2 J9 (fun l m h => h.elim) (fun l h => h.elim) (by rw [Yz]; omega) Jh hl2 UZ w hx hT h0)
  have HR := ξ (fun (W : World) (h : qn W lb lo xs) => G6 lb lo xs.length lc xs rfl h1 h2 qM ⟨t, hp⟩ false (by rw [qaC hp]; simp; omega) W h)
  have HF := ξ (fun (v : kU) (hv : v.n = xs.length) => qem (v := v) (s := s) hp hr hv jp qM)
  have HS := ξ (ζ jp (ζ W0 hr))
  clear hx hT J9 Jh hl2 UZ qM W0 hr hp jp
  go_enter func34, ntmps34
  go_wp2_with fail
  refine HC.out.mono ?_
  rintro e w1 ⟨X, v, rfl, Ye, hlb, hlo, hvn, hlc, ZX, hiv, qr⟩
  have HH := ξ (ζ Ye (ζ hvn (ζ ZX (ζ hiv qr))))
  clear Ye hlb hlo hvn hlc ZX hiv qr
  go_wp2_with fail
  refine (HR.out w1 (KM.out.below HH.out.2.2.2.2 lx)).mono ?_
  rintro e w2 ⟨rfl, zj⟩
  go_wp2
  go_ret
  obtain ⟨Ye, hvn, ZX, hiv, qr⟩ := HH.out
  refine ⟨X, v, _, _, rfl, Gm (c1 := fun _ => 0) (n1 := 0) (c2 := c2) (n2 := _) t (Ui HP.out) (by rw [hvn, HP.out.2.2.1]) HS.out.1 (HF.out v hvn) Ye (qaD HP.out), (hiv (fun _ => False) (fun b hb => hb.elim)).keeps (qb.of_below zj), fun b hb => ?_, qr.trans (zj.mono qr.size)⟩
  rcases hb with (hb | hb | hb) | hb
  ·omega
  ·omega
  ·omega
  ·exact hb.elim
 ·obtain ⟨hs6, qjw⟩ := W0 hr
  obtain ⟨N, hN⟩ : ∃ N, N = 29 ^ 9 := ⟨_, rfl⟩
  have hNv : N = 14507145975869 := by rw [hN]
  obtain ⟨c1, UK, YU⟩ := Ue s.length N hN hs6
  obtain ⟨c2, Jh, hl2⟩ := QU xs.length s.length 255 N
  obtain ⟨d2, hj2, qH⟩ := QU xs.length s.length 255 0
  have UZ : xs.length * (s.length + 1) * (255 + 1) * (N + 1) < maxLen := by
   have q1 : xs.length * (s.length + 1) ≤ 24 * 7 := Nat.mul_le_mul qjw (by omega)
   have q2 : xs.length * (s.length + 1) * (255 + 1) * (N + 1) ≤ 24 * 7 * (255 + 1) * (N + 1) := Nat.mul_le_mul_right _ (Nat.mul_le_mul_right _ q1)
   rw [Yz]
   rw [hNv] at q2 ⊢
   omega
  have hm3 : xs.length * (s.length + 1) * (255 + 1) * (0 + 1) < maxLen := by
   have : xs.length * (s.length + 1) ≤ 24 * 7 := Nat.mul_le_mul qjw (by omega)
   rw [Yz]; omega
  have hN1 : N < maxLen := by rw [Yz, hNv]; omega
  have qhB : ∀ i, i < xs.length → ∃ t, zT (fun i => (xs.map Qu)[i]?) t i := fun i hi => by
   obtain ⟨u, hu⟩ := J9 i hi
   exact ⟨loosen u, hu.loosen⟩
  have HC := ξ (KS (s := s) (B := 255) (c1 := c1) (n1 := N) (P1 := okP s.length) lb lo xs.length lc rfl h1 h2 J9 UK YU hN1 Jh hl2 UZ w hx hT h0)
  have HR := ξ (fun (W : World) (h : qn W lb lo xs) => G6 lb lo xs.length lc xs rfl h1 h2 qM ⟨t, hp⟩ true (by rw [qaC hp]; simp; omega) W h)
  have HLO := ξ (fun (W : World) (h : qn W lb lo xs) => Gq lb lo xs.length lc xs rfl h1 h2 W h)
  have HC2 := ξ (fun (g cap : Nat) (W : World) (h : qn W g 0 (xs.map Qu)) (hT : TabAt 0 Lib.deBruijn64tab W) (h0 : 0 < W.heap.size) => KS (s := s) (B := 255) (c1 := fun _ => 0) (n1 := 0) (P1 := fun _ => False) g 0 xs.length cap (by rw [List.length_map]) h1 h2 qhB (fun l m h => h.elim) (fun l h => h.elim) (by rw [Yz]; omega) hj2 qH hm3 W h hT h0)
  have HF := ξ (fun (v : kU) (hv : v.n = xs.length) => qgG (v := v) (s := s) hp hv jp qM)
  have HF2 := ξ (fun (v : kU) (hv : v.n = xs.length) => qen (v := v) (s := s) hp hv jp qM)
  have HS := ξ jp
  clear hx hT J9 qhB UK YU Jh hl2 hj2 qH UZ hm3 hN1 hNv hN qM W0 hr hp jp hs6 qjw
  go_enter func34, ntmps34
  go_wp2_with fail
  refine HC.out.mono ?_
  rintro e w1 ⟨X, v, rfl, Ye, hlb, hlo, hvn, hlc, ZX, hiv, qr⟩
  have hi0 := hiv (fun _ => False) (fun b hb => hb.elim)
  have hlts := hi0.lts
  have lw1 := qr.size
  have HH := ξ (ζ Ye (ζ hvn (ζ ZX (ζ hi0 (ζ qr (ζ hlts hlb))))))
  clear Ye hlb hlo hvn hlc ZX hiv qr hi0 hlts
  go_wp2_with fail
  refine (HR.out w1 (KM.out.below HH.out.2.2.2.2.1 lx)).mono ?_
  rintro e w2 ⟨rfl, zj⟩
  have lw2 := zj.size
  have Jy := HH.out.2.2.2.2.1.trans (zj.mono lw1)
  have jk := ξ (ζ zj Jy)
  clear zj Jy
  go_wp2_with fail
  refine (HLO.out w2 (KM.out.below jk.out.2 lx)).mono ?_
  rintro e w3 ⟨⟨g, cap, rfl, hg, hxg⟩, qQ⟩
  have lw3 := qQ.size
  have qch := jk.out.2.trans (qQ.mono (by omega))
  have hT3 : TabAt 0 Lib.deBruijn64tab w3 := fun j hj => by
   have e := qch.block 0 h0
   have := HTT.out j hj
   rw [← this]
   simp only [World.cell?, e]
  have HC3 := ξ (HC2.out g cap w3 hxg hT3 (by omega))
  have Zt := ξ (ζ qQ (ζ qch hg))
  clear hT3 hxg qQ qch hg
  go_wp2_with fail
  refine HC3.out.mono ?_
  rintro e w4 ⟨X2, v2, rfl, qbF, hlb2, hlo2, qeo, hlc2, qjy, qgH, vU⟩
  have lw4 := vU.size
  have hk14 : qb (fun b => False ∨ w1.heap.size ≤ b) w1 w4 := ((qb.of_below jk.out.1).trans (qb.of_below Zt.out.1)).trans (qb.of_below vU)
  have hi4 := HH.out.2.2.2.1.fresh.keeps hk14
  have q1 := hi4.tr.c6
  rw [HH.out.1] at q1
  have q2 : w4.frozen? ⟨X, 6, none⟩ = false := by simp [World.frozen?, hi4.tr.heap]
  have lX := HH.out.2.2.1.1
  have H4 := ξ (ζ hi4 (ζ qbF (ζ qeo (ζ qjy (ζ qgH vU)))))
  clear hk14 hi4 qbF hlb2 hlo2 qeo hlc2 qjy qgH vU HC3 HC
  go_wp2
  go_ret
  obtain ⟨Ye, hvn, ZX, hi0, qr, ⟨l1, l2, l3, l4, l5, l6, l7⟩, hlb⟩ := HH.out
  obtain ⟨hi4, qbF, qeo, qjy, qgH, vU⟩ := H4.out
  have hg := Zt.out.2.2
  have i5 := hi4.relp (by rw [hlb]; omega) (by omega) (by omega) (some ⟨X2, 0, none⟩)
  have j5 := (qgH (fun b => b < w3.heap.size ∧ b ≠ g ∧ b ≠ 0) (fun b hb => hb)).keeps ((qb.refl (fun b => b < w3.heap.size ∧ b ≠ g ∧ b ≠ 0) w4).setCell (p := ⟨X, 6, none⟩) (by show X < w3.heap.size ∧ X ≠ g ∧ X ≠ 0; omega) (.pointer (some ⟨X2, 0, none⟩)))
  refine ⟨X, ⟨v.lb, v.lo, v.n, v.lc, v.rb, v.bn, v.br, v.bl, some ⟨X2, 0, none⟩⟩, _, _, rfl, Gn (X2 := X2) (v2 := v2) (c1 := c1) (n1 := N) (c2 := c2) (n2 := _) (d1 := fun _ => 0) (m1 := 0) (d2 := d2) (m2 := _) t (Ui HP.out) (by show v.n = _; rw [hvn, HP.out.2.2.1]) (by show v2.n = v.n; rw [hvn, qeo]) HS.out (HF.out _ hvn) (HF2.out v2 qeo) rfl qbF (qaD HP.out) (qgF HP.out.2.2.2.2.1), ⟨i5.mono (fun b hb => ?_), [], j5.mono (fun b hb => ?_)⟩, fun b hb => ?_, ((Zt.out.2.1.trans (vU.mono (by omega))).setCell (p := ⟨X, 6, none⟩) lX _)⟩
  ·rcases hb with hb | hb | hb | hb
   ·exact .inl hb
   ·exact .inr (by omega)
   ·exact .inr (by omega)
   ·exact .inr (by omega)
  ·rcases hb with hb | hb | hb | hb
   ·exact hb.elim
   ·have hb : b = v.bn := hb
    omega
   ·have hb : b = v.br := hb
    omega
   ·have hb : b = v.bl := hb
    omega
  ·rcases hb with (hb | hb | hb) | (hb | hb | hb)
   ·have hb : b = v.bn := hb
    omega
   ·have hb : b = v.br := hb
    omega
   ·have hb : b = v.bl := hb
    omega
   ·omega
   ·omega
   ·omega
def kY : Cp := fun _ => none
theorem qjz (k : Int) (w : World) : Calls prog 73 #[.int .i64 k] w fun e w' => e = .returned (qk kY) ∧ ∀ S, qb S w w' := by
 have HN := ξ (fun w => yS w)
 have Y9 : qm (w.alloc (.cells cZ 27)) w.heap.size 10 27 (fun _ => .complex .f64 0 0) := qm.new w 10 27 (fun _ => .complex .f64 0 0)
 have HR0 := ξ Y9
 clear Y9
 go_enter func73, ntmps73
 go_wp2_with fail
 refine (HN.out _).mono ?_
 rintro e w2 ⟨rfl, hB⟩
 have kR := hB.size
 have lw : w.heap.size < w2.heap.size := by simp at kR; omega
 have Qo := HR0.out.below hB (by simp)
 have qH : ∀ S, qb S w w2 := fun S => ((qb.refl S w).alloc (.cells cZ 27)).trans (qb.of_below hB)
 have HK := ξ qH
 obtain ⟨Z, hZ⟩ : ∃ Z : Cp, Z = fun _ => none := ⟨_, rfl⟩
 rw [← hZ]
 have HZ := ξ hZ
 clear hB qH hZ kR
 unfold qk
 have r_ := Qo.rf10
 have zI := ξ (kn (w := w2) (b := w.heap.size) Z)
 have za := ξ (qV (w := w2) (b := w.heap.size) Qo Z)
 clear Qo
 go_wp2
 refine bodyPost_ret (v := .agg (cH Z)) (by simp [results, results73, go_sem, za.out]) rfl ⟨?_, fun S => (HK.out S).trans2 zI.out (fun i hi e => by omega)⟩
 rw [HZ.out]
 rfl
theorem qaA {X : Nat} {v : kU} {s : List UInt8} {t : T} {M2 : Nat → Prop} {J : (Nat → Prop) → List Lit → World → Prop} (tr : K6 X v s t M2 J) (i : Nat) (hi : i ≤ s.length) (E : Nat → Prop) (es : List Lit) (w : World) (hJ : J E es w) (hE : ∀ b, E b → b < w.heap.size) :
  Calls prog 42 #[.pointer (some ⟨X, 0, none⟩), .int .i64 i] w fun e w' => ∃ (b : Nat) (fs : List Lit), e = .returned (PV (s.length / 64 + 1) b) ∧ qI w' b (s.length / 64 + 1) (fun j => (qd s t).ends i 0 kY j) ∧ w.heap.size ≤ b ∧ ¬ (Mt v b ∨ M2 b) ∧ es <+: fs ∧ J E fs w' ∧ qb (fun b => Mt v b ∨ M2 b) w w' := by
 have jp := tr.sl
 have htr := tr.tr hJ
 have q0 := htr.c0
 have q1 := htr.c1
 have kR : (⟨s.toArray⟩ : ByteArray).size = s.length := by simp [ByteArray.size]
 have HNP := ξ (fun w => QJ s.length (by omega) w)
 have ko := ξ tr
 have HJ := ξ (ζ hJ hE)
 have hn := tr.n
 have HTN := ξ hn
 have Zl : 1 ≤ v.n := by have := t.size_pos; omega
 have XJ := tr.n2
 have e1 : (v.n : Int) - 1 = ((t.size - 1 : Nat) : Int) := by omega
 have HE1 := ξ e1
 clear htr hJ hE hn e1
 go_enter func42, ntmps42
 go_wp2_with fail
 refine (HNP.out _).mono ?_
 rintro e w1 ⟨rfl, yt⟩
 have zO : ∀ S, qb S w w1 := fun S => by rw [yt]; exact (qb.refl S w).alloc _
 have qv : qI w1 w.heap.size (s.length / 64 + 1) (fun _ => false) := by rw [yt]; exact qI.new w _ _
 have hJ1 : J (fun b => E b ∨ b = w.heap.size) es w1 := ko.out.mono (ko.out.keeps (ko.out.fresh HJ.out.1) (zO _)) (fun b hb => hb.imp id (fun e => by omega))
 have lw1 : w.heap.size < w1.heap.size := qv.lt
 have VI : ∀ b, (E b ∨ b = w.heap.size) → b < w1.heap.size := fun b hb => by
  rcases hb with hb | hb
  ·have := HJ.out.2 b hb; omega
  ·omega
 have q0 : w1.cell? ⟨X, 0, none⟩ = some (.slice (some ⟨v.lb, v.lo, none⟩) v.n v.lc) := (ko.out.tr hJ1).c0
 have qh := ko.out.go i hi 0 kY _ es w1 w.heap.size (fun _ => false) 73 #[] (by omega) ko.out.cnt (fun g a b e => by cases e) hJ1 VI (.inr rfl) qv ⟨fun w => rfl, fun fs w' hp hJ' hk => (qjz i w').mono (by
  rintro e w'' ⟨rfl, qH⟩
  exact ⟨fs, rfl, List.prefix_refl _, ko.out.keeps hJ' (qH _), qH _⟩)⟩
 rw [← HE1.out] at qh
 unfold PV at qh
 have qp := ξ qh
 have Ub := ko.out.lt HJ.out.1
 have HK1 := ξ (ζ zO Ub)
 clear qh qv hJ1 VI zO yt Ub
 go_wp2_with fail
 refine qp.out.mono ?_
 rintro e w2 ⟨fs, rfl, zk, qJ, vV, qH⟩
 have HF := ξ (ζ zk (ζ qJ (ζ vV qH)))
 clear zk qJ vV qH qp
 go_wp2
 go_ret
 refine ⟨w.heap.size, fs, rfl, ?_, Nat.le_refl _, fun hb => by have := HK1.out.2 _ hb; omega, HF.out.2.1, ko.out.mono HF.out.2.2.1 (fun b hb => .inl hb), (HK1.out.1 _).trans2 HF.out.2.2.2 (fun i hi e => e.elim id (fun e => by omega))⟩
 have := HF.out.1
 simp only [Bool.false_or] at this
 exact this
section
variable {X : Nat} {v : kU} {s : List UInt8} {t : T} {M2 : Nat → Prop} {J : (Nat → Prop) → List Lit → World → Prop}
theorem Uc (tr : K6 X v s t M2 J) (i : Nat) (hi : i ≤ s.length) (j : Int) (hj : j < i) (E : Nat → Prop) (es : List Lit) (w : World) (hJ : J E es w) (hE : ∀ b, E b → b < w.heap.size) :
  Calls prog 35 #[.pointer (some ⟨X, 0, none⟩), .int .i64 i, .int .i64 j] w fun e w' => ∃ fs : List Lit, e = .returned (.tuple #[qk kY, .bool false]) ∧ es <+: fs ∧ J E fs w' ∧ qb (fun b => Mt v b ∨ M2 b) w w' := by
 have jp := tr.sl
 have hJ1 : J (fun b => E b ∨ b = w.heap.size) es (w.alloc (.cells cZ 27)) := tr.mono (tr.keeps (tr.fresh hJ) (((qb.refl _ w)).alloc _)) (fun b hb => hb.imp id (fun e => by omega))
 have VI : ∀ b, (E b ∨ b = w.heap.size) → b < (w.alloc (.cells cZ 27)).heap.size := fun b hb => by
  rw [World.size_alloc]
  rcases hb with hb | hb
  ·have := hE b hb; omega
  ·omega
 have Jk : qm (w.alloc (.cells cZ 27)) w.heap.size 10 27 (fun _ => .complex .f64 0 0) := qm.new w 10 27 (fun _ => .complex .f64 0 0)
 have zO : qb (fun b => Mt v b ∨ M2 b) w (w.alloc (.cells cZ 27)) := (qb.refl _ w).alloc _
 have ko := ξ tr
 have HN := ξ (fun w => yS w)
 have qR := ξ (ζ (List.prefix_refl es) (ζ hJ1 zO))
 clear tr hJ hE hJ1 zO VI
 go_enter func35, ntmps35
 go_wp2_with fail
 refine (HN.out _).mono ?_
 rintro e wn ⟨rfl, jG⟩
 have Js := Jk.below jG Jk.lt
 have lwn : w.heap.size < wn.heap.size := Js.lt
 obtain ⟨Z, hZ⟩ : ∃ Z : Cp, Z = fun _ => none := ⟨_, rfl⟩
 rw [← hZ]
 have HZ := ξ hZ
 have Gj := ξ jG
 clear jG hZ
 unfold qk
 have r_ := Js.rf10
 have zI := ξ (kn (w := wn) (b := w.heap.size) Z)
 have za := ξ (qV (w := wn) (b := w.heap.size) Js Z)
 clear Js
 go_wp2
 obtain ⟨s0, s1, s2, s3, s4, s5, s6, s7, s8, s9⟩ := za.out
 first
 | refine bodyPost_ret (v := .tuple #[.agg (cH Z), .bool false]) (by simp [results, results35, go_sem, s0, s1, s2, s3, s4, s5, s6, s7, s8, s9]) rfl ⟨es, ?_, qR.out.1, ko.out.mono (ko.out.keeps (ko.out.keeps qR.out.2.1 (qb.of_below Gj.out)) (zI.out.mono (fun i _ e => .inr (by subst e; omega)))) (fun b hb => .inl hb), (qR.out.2.2.trans (qb.of_below Gj.out)).trans2 zI.out (fun i hi e => by omega)⟩
 | refine bodyPost_ret (v := .tuple #[.agg (cH Z), .bool false]) (by simp [results, results35, go_sem, s0, s1, s2, s3, s4, s5, s6, s7, s8, s9]) rfl ⟨?_, es, qR.out.1, ko.out.mono (ko.out.keeps (ko.out.keeps qR.out.2.1 (qb.of_below Gj.out)) (zI.out.mono (fun i _ e => .inr (by subst e; omega)))) (fun b hb => .inl hb), (qR.out.2.2.trans (qb.of_below Gj.out)).trans2 zI.out (fun i hi e => by omega)⟩
 show Ending.returned (.tuple #[qk Z, .bool false]) = Ending.returned (.tuple #[qk kY, .bool false])
 rw [HZ.out]
 rfl
theorem qeg (tr : K6 X v s t M2 J) (i j : Nat) (kh : i ≤ j) (hj : j ≤ s.length) (kz : (qd s t).ends i 0 kY j = false) (E : Nat → Prop) (es : List Lit) (w : World) (hJ : J E es w) (hE : ∀ b, E b → b < w.heap.size) :
  Calls prog 35 #[.pointer (some ⟨X, 0, none⟩), .int .i64 i, .int .i64 j] w fun e w' => ∃ fs : List Lit, e = .returned (.tuple #[qk kY, .bool false]) ∧ es <+: fs ∧ J E fs w' ∧ qb (fun b => Mt v b ∨ M2 b) w w' := by
 have jp := tr.sl
 have hJ1 : J (fun b => E b ∨ b = w.heap.size) es (w.alloc (.cells cZ 27)) := tr.mono (tr.keeps (tr.fresh hJ) (((qb.refl _ w)).alloc _)) (fun b hb => hb.imp id (fun e => by omega))
 have VI : ∀ b, (E b ∨ b = w.heap.size) → b < (w.alloc (.cells cZ 27)).heap.size := fun b hb => by
  rw [World.size_alloc]
  rcases hb with hb | hb
  ·have := hE b hb; omega
  ·omega
 have Jk : qm (w.alloc (.cells cZ 27)) w.heap.size 10 27 (fun _ => .complex .f64 0 0) := qm.new w 10 27 (fun _ => .complex .f64 0 0)
 have zO : qb (fun b => Mt v b ∨ M2 b) w (w.alloc (.cells cZ 27)) := (qb.refl _ w).alloc _
 have ko := ξ tr
 have HN := ξ (fun w => yS w)
 have yJ := qaA tr i (by omega) _ es _ hJ1 VI
 have qt := ξ yJ
 have HK1 := ξ zO
 have kD := ξ kz
 have Ub := tr.lt hJ
 have HLT := ξ Ub
 have zb : ¬ (j : Int) < (i : Int) := by omega
 clear tr hJ hE hJ1 zO yJ kz Ub VI
 go_enter func35, ntmps35
 go_wp2_with fail
 refine qt.out.mono ?_
 rintro e w2 ⟨b, fs, rfl, qv, hb, hbm, qJ, vV, qH⟩
 have QQ := ξ (Ys b (s.length / 64 + 1) (s.length / 64 + 1) j _ (by omega) (by omega) w2 qv)
 have qbB : qm w2 w.heap.size 10 27 (fun _ => .complex .f64 0 0) := ⟨(qH.block _ Jk.lt (fun e => by have := HLT.out _ e; omega)).trans Jk.heap⟩
 have H2 := ξ (ζ qJ (ζ vV (HK1.out.trans qH)))
 clear qv hb hbm qJ vV qH qt Jk
 unfold PV
 go_wp2_with fail
 refine QQ.out.mono ?_
 rintro e w3 ⟨rfl, rfl⟩
 clear QQ
 rw [kD.out]
 have Jk := qbB
 have qR := ξ H2.out
 clear qbB
 go_wp2_with fail
 refine (HN.out _).mono ?_
 rintro e wn ⟨rfl, jG⟩
 have Js := Jk.below jG Jk.lt
 have lwn : w.heap.size < wn.heap.size := Js.lt
 obtain ⟨Z, hZ⟩ : ∃ Z : Cp, Z = fun _ => none := ⟨_, rfl⟩
 rw [← hZ]
 have HZ := ξ hZ
 have Gj := ξ jG
 clear jG hZ
 unfold qk
 have r_ := Js.rf10
 have zI := ξ (kn (w := wn) (b := w.heap.size) Z)
 have za := ξ (qV (w := wn) (b := w.heap.size) Js Z)
 clear Js
 go_wp2
 obtain ⟨s0, s1, s2, s3, s4, s5, s6, s7, s8, s9⟩ := za.out
 first
 | refine bodyPost_ret (v := .tuple #[.agg (cH Z), .bool false]) (by simp [results, results35, go_sem, s0, s1, s2, s3, s4, s5, s6, s7, s8, s9]) rfl ⟨fs, ?_, qR.out.1, ko.out.mono (ko.out.keeps (ko.out.keeps qR.out.2.1 (qb.of_below Gj.out)) (zI.out.mono (fun i _ e => .inr (by subst e; omega)))) (fun b hb => .inl hb), (qR.out.2.2.trans (qb.of_below Gj.out)).trans2 zI.out (fun i hi e => by omega)⟩
 | refine bodyPost_ret (v := .tuple #[.agg (cH Z), .bool false]) (by simp [results, results35, go_sem, s0, s1, s2, s3, s4, s5, s6, s7, s8, s9]) rfl ⟨?_, fs, qR.out.1, ko.out.mono (ko.out.keeps (ko.out.keeps qR.out.2.1 (qb.of_below Gj.out)) (zI.out.mono (fun i _ e => .inr (by subst e; omega)))) (fun b hb => .inl hb), (qR.out.2.2.trans (qb.of_below Gj.out)).trans2 zI.out (fun i hi e => by omega)⟩
 show Ending.returned (.tuple #[qk Z, .bool false]) = Ending.returned (.tuple #[qk kY, .bool false])
 rw [HZ.out]
 rfl
end
end Go.Proofs.YtjgegohidhdbpaaGreatDoor
