/- What a trial's numbers need; its trees. -/
import Derived.Test.YtgllmhheahlpjaaGreatDoorJMcV
import Derived.Test.YtgllmhheahlpjaaGreatDoorJRxX
import Derived.Test.YtgllmhheahlpjaaGreatDoorJRxW
set_option linter.unusedVariables false
set_option linter.unusedSimpArgs false
set_option maxRecDepth 100000
set_option maxHeartbeats 40000000
namespace Go.Proofs.YtgllmhheahlpjaaGreatDoor
open Go.RowKit Go.Maps Go.WideMaps
def encD (d : Nat → Nat) : Nat → Nat
 | 0 => 0
 | m + 1 => d 0 + 29 * encD (fun i => d (i + 1)) m
 where dummy : Unit := ()
theorem encD_spec : ∀ (m : Nat) (d : Nat → Nat), (∀ i, d i < 29) → encD d m < 29 ^ m ∧ ∀ i, i < m → encD d m / 29 ^ i % 29 = d i
 | 0, d, _ => ⟨by simp [encD], fun i hi => by omega⟩
 | m + 1, d, h => by
  obtain ⟨h1, h2⟩ := encD_spec m (fun i => d (i + 1)) (fun i => h (i + 1))
  have h0 := h 0
  refine ⟨?_, fun i hi => ?_⟩
  ·show d 0 + 29 * encD (fun i => d (i + 1)) m < 29 ^ (m + 1)
   rw [Nat.pow_succ]
   omega
  ·show (d 0 + 29 * encD (fun i => d (i + 1)) m) / 29 ^ i % 29 = d i
   cases i with
   | zero => simp; omega
   | succ i =>
    rw [Nat.pow_succ, Nat.mul_comm (29 ^ i) 29, ← Nat.div_div_eq_div_mul, show (d 0 + 29 * encD (fun i => d (i + 1)) m) / 29 = encD (fun i => d (i + 1)) m by omega]
    exact h2 i (by omega)
def spanTab : List (Int × Int) := [(-1, -1), (0, 0), (0, 1), (1, 1), (0, 2), (1, 2), (2, 2), (0, 3), (1, 3), (2, 3), (3, 3), (0, 4), (1, 4), (2, 4), (3, 4), (4, 4), (0, 5), (1, 5), (2, 5), (3, 5), (4, 5), (5, 5), (0, 6), (1, 6), (2, 6), (3, 6), (4, 6), (5, 6), (6, 6)]
def spanAt (d : Nat) : Int × Int := spanTab.getD d (0, 0)
theorem span_tab : ∀ a : Fin 7, ∀ b : Fin 7, a ≤ b → ∃ d : Fin 29, spanAt d = ((a.val : Int), (b.val : Int)) := by decide +kernel
theorem pkey_congr {P Q : Nat → Int × Int} (h : ∀ g, g < 10 → P g = Q g) : pkey P = pkey Q := by
 have e : ptV P = ptV Q := by
  unfold ptV
  rw [h 0 (by omega), h 1 (by omega), h 2 (by omega), h 3 (by omega), h 4 (by omega), h 5 (by omega), h 6 (by omega), h 7 (by omega), h 8 (by omega), h 9 (by omega)]
 unfold pkey
 rw [e]
theorem parts_coded (len N : Nat) (hN : N = 29 ^ 9) (hl : len ≤ 6) : ∃ code : Lit → Nat, (∀ l m, okP len l → okP len m → code l = code m → l = m) ∧ ∀ l, okP len l → code l < N := by
 refine coded (fun k => pkey (fun g => if g = 0 then (0, 0) else spanAt (k / 29 ^ (g - 1) % 29))) _ _ ?_
 rintro l ⟨G, had, hG, hc, hl2⟩
 rw [hl2]
 have hd : ∀ g, ∃ d, d < 29 ∧ spanAt d = partsOf G had g := fun g => by
  unfold partsOf
  split
  ·cases hh : had g with
   | none => exact ⟨0, by omega, rfl⟩
   | some ab =>
    obtain ⟨a, b⟩ := ab
    obtain ⟨h1, h2⟩ := hc g a b hh
    obtain ⟨d, hd⟩ := span_tab ⟨a, by omega⟩ ⟨b, by omega⟩ (by show a ≤ b; exact h1)
    exact ⟨d.val, d.isLt, hd⟩
  ·exact ⟨1, by omega, rfl⟩
 obtain ⟨D, hD⟩ : ∃ D : Nat → Nat, ∀ g, D g < 29 ∧ spanAt (D g) = partsOf G had g := ⟨fun g => Classical.choose (hd g), fun g => Classical.choose_spec (hd g)⟩
 obtain ⟨h1, h2⟩ := encD_spec 9 (fun i => D (i + 1)) (fun i => (hD (i + 1)).1)
 refine ⟨encD (fun i => D (i + 1)) 9, by rw [hN]; exact h1, pkey_congr fun g hg => ?_⟩
 by_cases e : g = 0
 ·subst e
  rw [if_pos rfl]
  unfold partsOf
  cases hq : G 0 with
  | false => rfl
  | true => have := (hG 0 hq).1; omega
 ·rw [if_neg e, h2 (g - 1) (by omega), show g - 1 + 1 = g by omega]
  exact (hD g).2
theorem lok_asks (s : List UInt8) : ∀ (t : T), t.Lok → ∀ g, (semT s t).asked g = true → 1 ≤ g
 | .leaf x, h, g, ha => by
  simp only [semT, leafS, Bool.and_eq_true, decide_eq_true_eq] at ha
  have h' : x.kind = -1 ∨ x.kind = 0 ∨ x.kind = 1 ∨ x.kind = 2 ∨ x.kind = 3 ∨ (x.kind = 8 ∧ 1 ≤ x.n ∧ x.n ≤ 9) := h
  omega
 | .two k a b, ⟨hk, h1, h2⟩, g, ha => by
  have i1 := lok_asks s a h1 g
  have i2 := lok_asks s b h2 g
  simp only [semT] at ha
  split at ha
  ·simp only [catS, Bool.or_eq_true, Bool.and_eq_true] at ha
   rcases ha with q | q
   ·exact i1 q
   ·exact i2 q.1
  ·simp only [altS, Bool.or_eq_true] at ha
   rcases ha with q | q
   ·exact i1 q
   ·exact i2 q
 | .times m M t, ⟨_, h⟩, g, ha => lok_asks s t h g ha
 | .group n t, ⟨_, h⟩, g, ha => lok_asks s t h g ha
theorem lloosen_at {l : Nat → Option Nd} : ∀ (t : T) (o : Nat), t.Lok → T.At l t o → T.At (fun i => (l i).map lnd) (loosen t) o
 | .leaf x, o, _, h => by
  have h' : l o = some x := h
  unfold loosen
  by_cases hk : x.kind = 8
  ·rw [if_pos hk]
   show (l o).map lnd = some _
   rw [h', Option.map_some, lnd, if_pos hk]; rfl
  ·rw [if_neg hk]
   show (l o).map lnd = some _
   rw [h', Option.map_some, lnd, if_neg hk]
 | .two k a b, o, ⟨hk, ha, hb⟩, ⟨h1, h2, h3⟩ => by
  refine ⟨lloosen_at a o ha h1, by rw [loosen_size]; exact lloosen_at b _ hb h2, ?_⟩
  rw [loosen_size, loosen_size]
  show (l (o + a.size + b.size)).map lnd = _
  rw [h3, Option.map_some, lnd, if_neg (show ¬ (T.root (.two k a b) o).kind = 8 by show ¬ k = 8; omega)]
  show some (T.root (.two k a b) o) = some (T.root (.two k (loosen a) (loosen b)) o)
  simp only [T.root, loosen_size]
 | .times m M t, o, ⟨_, ht⟩, ⟨h1, h3⟩ => by
  refine ⟨lloosen_at t o ht h1, ?_⟩
  rw [loosen_size]
  show (l (o + t.size)).map lnd = _
  rw [h3, Option.map_some, lnd, if_neg (show ¬ (T.root (.times m M t) o).kind = 8 by show ¬ (6 : Int) = 8; omega)]
  show some (T.root (.times m M t) o) = some (T.root (.times m M (loosen t)) o)
  simp only [T.root, loosen_size]
 | .group n t, o, ⟨_, ht⟩, ⟨h1, h3⟩ => by
  refine ⟨lloosen_at t o ht h1, ?_⟩
  rw [loosen_size]
  show (l (o + t.size)).map lnd = _
  rw [h3, Option.map_some, lnd, if_neg (show ¬ (T.root (.group n t) o).kind = 8 by show ¬ (7 : Int) = 8; omega)]
  show some (T.root (.group n t) o) = some (T.root (.group n (loosen t)) o)
  simp only [T.root, loosen_size]
theorem Sub.loosen {xs : List Nd} {t : T} {i : Nat} (h : Sub (fun i => xs[i]?) t i) : Sub (fun i => (xs.map lnd)[i]?) (loosen t) i := by
 obtain ⟨h1, o, h2, h3⟩ := h
 refine ⟨loosen_lok t h1, o, ?_, by rw [loosen_size]; exact h3⟩
 have := lloosen_at t o h1 h2
 have e : (fun i : Nat => (xs.map lnd)[i]?) = fun i => (xs[i]?).map lnd := by funext i; rw [List.getElem?_map]
 rw [e]; exact this
theorem any_nd : ∀ x : Nd, isNd x = true → x.kind ≠ -1 := fun x h e => by
 unfold isNd at h
 simp [e] at h
theorem any_lnd {xs : List Nd} (h : ∀ (i : Nat) (x : Nd), xs[i]? = some x → isNd x = true) : ∀ (i : Nat) (x : Nd), (xs.map lnd)[i]? = some x → x.kind = -1 → x = anyNd := fun i x hx hk => by
 rw [List.getElem?_map] at hx
 cases hy : xs[i]? with
 | none => rw [hy] at hx; cases hx
 | some y =>
  rw [hy] at hx; cases hx
  unfold lnd at hk ⊢
  by_cases h8 : y.kind = 8
  ·rw [if_pos h8]
  ·rw [if_neg h8] at hk
   exact absurd hk (any_nd y (h i y hy))
theorem fx_of {v : TrV} {s : List UInt8} {xs : List Nd} {P1 : Lit → Prop} (t : T) (hL : t.Lok) (hA : T.At (fun i => xs[i]?) t 0) (hs : t.size = xs.length) (hn : xs.length ≤ 120) (hv : v.n = xs.length) (hsl : s.length ≤ 255) (hfit : ∀ (i : Nat) (x : Nd), xs[i]? = some x → x.Fits)
  (hP : ∀ (u : T) (had : Cp), u.Lok → CapOk s.length had → noG (semT s u).asked ≠ true → (∃ i, Sub (fun i => xs[i]?) u i) → P1 (pkey (partsOf (semT s u).asked had))) : Fx v s xs 255 P1 where
 len := hv.symm
 n1 := by have := t.size_pos; omega
 n2 := by omega
 sl := by omega
 sub := fun i hi => sub_all t 0 hL hA i (Nat.zero_le _) (by omega)
 fits := hfit
 ok := fun i u hi hu => ⟨(lok_mok u hu.1).1, sem_ok s u (lok_mok u hu.1).1, fun g hg => lok_asks s u hu.1 g hg⟩
 P1 := fun i u had hi (hu : Sub (fun i => xs[i]?) u i) hc hn => hP u had hu.1 hc hn ⟨i, hu⟩
 B1 := by omega
 B2 := hsl
 B3 := by omega
theorem refs_node {l : Nat → Option Nd} : ∀ (u : T) (o : Nat), T.At l u o → 0 < u.refs → ∃ (j : Nat) (x : Nd), l j = some x ∧ x.kind = 8
 | .leaf x, o, ha, hr => by
  have ha' : l o = some x := ha
  simp only [T.refs] at hr
  by_cases h8 : x.kind = 8
  ·exact ⟨o, x, ha', h8⟩
  ·rw [if_neg h8] at hr; omega
 | .two k a b, o, ⟨a1, a2, _⟩, hr => by
  simp only [T.refs] at hr
  rcases (by omega : 0 < a.refs ∨ 0 < b.refs) with h | h
  ·exact refs_node a o a1 h
  ·exact refs_node b _ a2 h
 | .times m M t, o, ⟨a1, _⟩, hr => refs_node t o a1 hr
 | .group n t, o, ⟨a1, _⟩, hr => refs_node t o a1 hr
end Go.Proofs.YtgllmhheahlpjaaGreatDoor
namespace Go.Proofs.YtgllmhheahlpjaaGreatDoor
open Go.RowKit Go.Maps Go.WideMaps
structure Trial (X : Nat) (v : TrV) (s : List UInt8) (t : T) (M2 : Nat → Prop) (J : (Nat → Prop) → List Lit → World → Prop) : Prop where
 n : v.n = t.size
 n2 : v.n ≤ 120
 sl : s.length ≤ 255
 tr : ∀ {E es w}, J E es w → TrAt w X v s
 tab : ∀ {E es w}, J E es w → TabAt 0 Lib.deBruijn64tab w
 lt : ∀ {E es w}, J E es w → ∀ b, (Mt v b ∨ M2 b) → b < w.heap.size
 mono : ∀ {E E' es w}, J E es w → (∀ b, E' b → E b) → J E' es w
 fresh : ∀ {E es w}, J E es w → J (fun b => E b ∨ w.heap.size ≤ b) es w
 keeps : ∀ {E es w w'}, J E es w → Keeps E w w' → J E es w'
 ok : SOk s.length (semT s t)
 cnt : CntOk t 0
 go : ∀ k, k ≤ s.length → GoC X v s 255 M2 J (t.size - 1) t k
 leave : ∀ p j, p ≤ j → j ≤ s.length → LeaveC X v s M2 J (t.size - 1) t p j
theorem Iv.relp {X : Nat} {v : TrV} {s : List UInt8} {xs : List Nd} {B : Nat} {c1 : Lit → Nat} {n1 : Nat} {P1 : Lit → Prop} {c2 : Lit → Nat} {n2 : Nat} {E : Nat → Prop} {es : List Lit} {w : World} (h : Iv X v s xs B c1 n1 P1 c2 n2 E es w) (hX : X ≠ v.lb) (hX0 : X ≠ 0) (hn : 1 ≤ v.n) (q : Option Addr) :
  Iv X ⟨v.lb, v.lo, v.n, v.lc, v.rb, v.bn, v.br, v.bl, q⟩ s xs B c1 n1 P1 c2 n2 E es (w.setCell ⟨X, 6, none⟩ (.pointer q)) := by
 have k : ∀ b, b ≠ X → (w.setCell ⟨X, 6, none⟩ (.pointer q)).heap[b]? = w.heap[b]? := fun b hb => Below.heap_setCell w ⟨X, 6, none⟩ _ b hb
 obtain ⟨F, hF, hF2⟩ := h.roles
 obtain ⟨L, h1, h2⟩ := h.reach
 obtain ⟨L', h3, h4⟩ := h.left
 have hrb : v.rb ≠ X := fun e => by
  have a := hF.cell 0 (by omega)
  rw [e, h.tr.c0] at a; cases a
 have hm : ∀ b, (∀ j, w.cell? ⟨b, j, none⟩ = none) → b ≠ X := fun b hb e => by
  have a := hb 0
  rw [e, h.tr.c0] at a; cases a
 refine ⟨⟨?_⟩, h.nodes.heap_ok (k _ (Ne.symm hX)), ⟨F, ⟨(k _ hrb).trans hF.heap⟩, hF2⟩, fun j hj => ?_, h.nd, h.ky, h.nums.of_heap (k _ (hm _ h.nums.noCell)), ⟨L, h1.of_heap (k _ (hm _ h1.noCell)), fun n p c q u hr hu => ?_⟩, ⟨L', h3.of_heap (k _ (hm _ h3.noCell)), h4⟩, h.out, h.ne⟩
 ·show (w.setCell ⟨X, 6, none⟩ (.pointer q)).heap[X]? = _
  rw [heap_setCell_same _ X 6 _ _ _ h.tr.heap]
  rfl
 ·have := h.tab j hj
  rw [← this]
  simp only [World.cell?, k 0 (Ne.symm hX0)]
 ·obtain ⟨b, t, had, a1, a2, a3, a4, a5, a6, a7⟩ := h2 n p c q u hr hu
  refine ⟨b, t, had, a1, a2, a3, a4, a5, a6, a7.heap_ok (k b fun e => ?_)⟩
  have a := a7.cell 0 (by omega)
  rw [e, h.tr.c0] at a; cases a
theorem trial_none {X : Nat} {v : TrV} {s : List UInt8} {xs : List Nd} {c1 : Lit → Nat} {n1 : Nat} {P1 : Lit → Prop} {c2 : Lit → Nat} {n2 : Nat} (t : T) (ht : Sub (fun i => xs[i]?) t (t.size - 1)) (hv : v.n = t.size) (hsl : s.length ≤ 255) (fx : Fx v s xs 255 P1) (hlp : v.lp = none) (hany : ∀ (i : Nat) (x : Nd), xs[i]? = some x → x.kind = -1 → x = anyNd) :
  Trial X v s t (fun _ => False) (fun E es w => Iv X v s xs 255 c1 n1 P1 c2 n2 E es w) := by
 have hpos := t.size_pos
 have hall := fun (i : Nat) (hi : i < v.n) (u : T) (hu : Sub (fun i => xs[i]?) u i) => plain_all (X := X) (c1 := c1) (n1 := n1) (c2 := c2) (n2 := n2) fx hlp hany i hi u hu
 have hr := hall (t.size - 1) (by omega) t ht
 refine ⟨hv, fx.n2, hsl, fun h => h.tr, fun h => h.tab, fun h b hb => ?_, fun h => h.mono, fun h => h.fresh, fun h => h.keeps, (fx.ok _ t (by omega) ht).2.1, cnt0 ht.1, fun k hk => ?_, hr.2⟩
 ·obtain ⟨l1, l2, l3, l4, l5, l6, l7⟩ := h.lts
  rcases hb with (hb | hb | hb) | hb
  ·omega
  ·omega
  ·omega
  ·exact hb.elim
 ·exact goon_none jx_plain fx hlp (t.size - 1) k t (by omega) hk (add_c jx_plain fx (t.size - 1) k t (by omega) hk ht (hr.1 k hk))
theorem trial_some {X X2 : Nat} {v v2 : TrV} {s : List UInt8} {xs : List Nd} {c1 : Lit → Nat} {n1 : Nat} {P1 : Lit → Prop} {c2 : Lit → Nat} {n2 : Nat} {d1 : Lit → Nat} {m1 : Nat} {Q1 : Lit → Prop} {d2 : Lit → Nat} {m2 : Nat} (t : T) (ht : Sub (fun i => xs[i]?) t (t.size - 1)) (hv : v.n = t.size) (hv2 : v2.n = v.n) (hsl : s.length ≤ 255) (fx : Fx v s xs 255 P1) (fx2 : Fx v2 s (xs.map lnd) 255 Q1) (hlp : v.lp = some ⟨X2, 0, none⟩) (hlp2 : v2.lp = none)
  (hany : ∀ (i : Nat) (x : Nd), xs[i]? = some x → x.kind = -1 → x = anyNd) (hany2 : ∀ (i : Nat) (x : Nd), (xs.map lnd)[i]? = some x → x.kind = -1 → x = anyNd) :
  Trial X v s t (Mt v2) (JL X X2 v v2 s xs (xs.map lnd) 255 c1 n1 P1 c2 n2 d1 m1 Q1 d2 m2) := by
 have hpos := t.size_pos
 have jx : JX X v s xs 255 c1 n1 P1 c2 n2 (Mt v2) (JL X X2 v v2 s xs (xs.map lnd) 255 c1 n1 P1 c2 n2 d1 m1 Q1 d2 m2) := jx_loose
 have hE2 : ∀ (n k : Nat) (u : T), n < v.n → k ≤ s.length → Sub (fun i => xs[i]?) u n → EndsC X2 v2 s 255 (fun _ => False) (fun E es w => Iv X2 v2 s (xs.map lnd) 255 d1 m1 Q1 d2 m2 E es w) n (loosen u) k := fun n k u hn hk hu => by
  have h2 := plain_all (X := X2) (c1 := d1) (n1 := m1) (c2 := d2) (n2 := m2) fx2 hlp2 hany2 n (by omega) (loosen u) hu.loosen
  exact ends_any jx_plain fx2 n k (loosen u) (by omega) hk hu.loosen (h2.1 k hk)
 have hgo : ∀ (n k : Nat) (u : T), n < v.n → k ≤ s.length → Sub (fun i => xs[i]?) u n → FillC X v s 255 (Mt v2) (JL X X2 v v2 s xs (xs.map lnd) 255 c1 n1 P1 c2 n2 d1 m1 Q1 d2 m2) 120 n u k → GoC X v s 255 (Mt v2) (JL X X2 v v2 s xs (xs.map lnd) 255 c1 n1 P1 c2 n2 d1 m1 Q1 d2 m2) n u k :=
  fun n k u hn hk hu hA => goon_loose fx fx2 hlp n k u hn hk (fx.ok n u hn hu).1 hA (hE2 n k u hn hk hu)
 have hr := trial_all jx fx hany hgo (leaf_all fx) (t.size - 1) (t.size - 1) (Nat.le_refl _) (by omega) t ht
 refine ⟨hv, fx.n2, hsl, fun h => h.1.tr, fun h => h.1.tab, fun h b hb => ?_, fun h hE => jx.mono h hE, fun h => jx.fresh h, fun h k => jx.keeps h k, (fx.ok _ t (by omega) ht).2.1, cnt0 ht.1, fun k hk => ?_, hr.2⟩
 ·obtain ⟨l1, l2, l3, l4, l5, l6, l7⟩ := h.1.lts
  rcases hb with (hb | hb | hb) | hb
  ·omega
  ·omega
  ·omega
  ·exact (jx.lt h b hb).1
 ·exact hgo (t.size - 1) k t (by omega) hk ht (add_c jx fx (t.size - 1) k t (by omega) hk ht (hr.1 k hk))
end Go.Proofs.YtgllmhheahlpjaaGreatDoor
namespace Go.Proofs.YtgllmhheahlpjaaGreatDoor
open Go.RowKit Go.Maps Go.WideMaps
theorem max_n : maxLen = 9223372036854775807 := by decide
theorem no_sub_refs {xs : List Nd} {t : T} (hp : IsPat xs t) (h0 : t.refs = 0) {u : T} {i : Nat} (hu : Sub (fun i => xs[i]?) u i) : u.refs = 0 := by
 rcases Nat.eq_zero_or_pos u.refs with h | h
 ·exact h
 ·exfalso
  obtain ⟨_, o, h2, _⟩ := hu
  obtain ⟨j, x, a1, a2⟩ := refs_node u o h2 h
  have := (tree_nodes t 0 hp.1 hp.2.1).2
  rw [Nat.zero_add, hp.2.2.1] at this
  have hr := this.1 ⟨j, x, (List.getElem?_eq_some_iff.1 a1).1, a1, a2⟩
  rcases hr with ⟨j, x, q, _⟩ | q
  ·omega
  ·omega
theorem ref_any {xs : List Nd} {t : T} (hp : IsPat xs t) : anyRef xs xs.length ↔ 0 < t.refs := by
 have := (tree_nodes t 0 hp.1 hp.2.1).2
 rw [Nat.zero_add, hp.2.2.1] at this
 rw [this]
 constructor
 ·rintro (⟨j, x, q, _⟩ | q)
  ·omega
  ·exact q
 ·exact .inr
theorem root_sub {xs : List Nd} {t : T} (hp : IsPat xs t) : Sub (fun i => xs[i]?) t (t.size - 1) := ⟨ok_lok t hp.1, 0, hp.2.1, by have := t.size_pos; omega⟩
theorem lnd_fits {xs : List Nd} (h : ∀ (i : Nat) (x : Nd), xs[i]? = some x → x.Fits) : ∀ (i : Nat) (x : Nd), (xs.map lnd)[i]? = some x → x.Fits := fun i x hx => by
 rw [List.getElem?_map] at hx
 cases hy : xs[i]? with
 | none => rw [hy] at hx; cases hx
 | some y =>
  rw [hy] at hx; cases hx
  unfold lnd
  split
  ·unfold anyNd
   constructor <;> simp
  ·exact h i y hy
theorem fx_plain {v : TrV} {s : List UInt8} {xs : List Nd} {t : T} (hp : IsPat xs t) (h0 : t.refs = 0) (hv : v.n = xs.length) (hsl : s.length ≤ 255) (hfit : ∀ (i : Nat) (x : Nd), xs[i]? = some x → x.Fits) : Fx v s xs 255 (fun _ => False) :=
 fx_of t (ok_lok t hp.1) hp.2.1 hp.2.2.1 hp.2.2.2.1 hv hsl hfit fun u had hL hc hn ⟨i, hu⟩ => hn (noG_of (fun g => no_asks s u (no_sub_refs hp h0 hu) g))
theorem fx_refs {v : TrV} {s : List UInt8} {xs : List Nd} {t : T} (hp : IsPat xs t) (hv : v.n = xs.length) (hsl : s.length ≤ 255) (hfit : ∀ (i : Nat) (x : Nd), xs[i]? = some x → x.Fits) : Fx v s xs 255 (okP s.length) :=
 fx_of t (ok_lok t hp.1) hp.2.1 hp.2.2.1 hp.2.2.2.1 hv hsl hfit fun u had hL hc hn _ => ⟨_, had, fun g hg => ⟨lok_asks s u hL g hg, (sem_ok s u (lok_mok u hL).1).ten g (.inl hg)⟩, hc, rfl⟩
theorem map_at {xs : List Nd} {t : T} (hp : IsPat xs t) : T.At (fun i => (xs.map lnd)[i]?) (loosen t) 0 := by
 have := lloosen_at t 0 (ok_lok t hp.1) hp.2.1
 have e : (fun i : Nat => (xs.map lnd)[i]?) = fun i => (xs[i]?).map lnd := by funext i; rw [List.getElem?_map]
 rw [e]; exact this
theorem fx_loose {v : TrV} {s : List UInt8} {xs : List Nd} {t : T} (hp : IsPat xs t) (hv : v.n = xs.length) (hsl : s.length ≤ 255) (hfit : ∀ (i : Nat) (x : Nd), xs[i]? = some x → x.Fits) : Fx v s (xs.map lnd) 255 (fun _ => False) := by
 refine fx_of (loosen t) (loosen_lok t (ok_lok t hp.1)) (map_at hp) (by rw [loosen_size, List.length_map]; exact hp.2.2.1) (by rw [List.length_map]; exact hp.2.2.2.1) (by rw [List.length_map]; exact hv) hsl (lnd_fits hfit) fun u had hL hc hn hu => hn (noG_of (fun g => ?_))
 obtain ⟨i, hu⟩ := hu
 have hi : i < xs.length := by
  obtain ⟨o, q1, q2⟩ := hu.node
  have := (List.getElem?_eq_some_iff.1 q1).1
  rw [List.length_map] at this; exact this
 obtain ⟨u', hu'⟩ := sub_all t 0 (ok_lok t hp.1) hp.2.1 i (Nat.zero_le _) (by rw [hp.2.2.1]; omega)
 rw [sub_uniq u (loosen u') i hu hu'.loosen]
 exact loosen_asks s u' g
theorem pat_any {xs : List Nd} {t : T} (hp : IsPat xs t) : ∀ (i : Nat) (x : Nd), xs[i]? = some x → x.kind = -1 → x = anyNd := fun i x hx hk => absurd hk (any_nd x (hp.2.2.2.2.1 i x hx))
theorem newtrial_c (lb lo lc : Nat) (s : List UInt8) (xs : List Nd) (t : T) (hp : IsPat xs t) (hfit : ∀ (i : Nat) (x : Nd), xs[i]? = some x → x.Fits) (hsl : s.length ≤ 255) (hsm : 0 < t.refs → s.length ≤ 6 ∧ xs.length ≤ 24) (w : World) (hx : NodesAt w lb lo xs) (hT : TabAt 0 Lib.deBruijn64tab w) (h0 : 0 < w.heap.size) :
  Calls Tryz.prog 43 #[.slice (some ⟨lb, lo, none⟩) xs.length lc, .string ⟨s.toArray⟩] w fun e w' => ∃ (X : Nat) (v : TrV) (M2 : Nat → Prop) (J : (Nat → Prop) → List Lit → World → Prop), e = .returned (.pointer (some ⟨X, 0, none⟩)) ∧ Trial X v s t M2 J ∧ J (fun _ => False) [] w' ∧ (∀ b, (Mt v b ∨ M2 b) → w.heap.size ≤ b) ∧ Below w.heap.size w w' := by
 have h1 : 1 ≤ xs.length := by have := t.size_pos; have := hp.2.2.1; omega
 have h2 := hp.2.2.2.1
 have hsub : ∀ i, i < xs.length → ∃ t, Sub (fun i => xs[i]?) t i := fun i hi => sub_all t 0 (ok_lok t hp.1) hp.2.1 i (Nat.zero_le _) (by rw [hp.2.2.1]; omega)
 have lx := hx.lt
 have HXX := Lib.hid hx
 have HTT := Lib.hid hT
 have HP := Lib.hid hp
 rcases Nat.eq_zero_or_pos t.refs with hr | hr
 ·obtain ⟨c2, hi2, hl2⟩ := state_coded xs.length s.length 255 0
  have hm2 : xs.length * (s.length + 1) * (255 + 1) * (0 + 1) < maxLen := by
   have : xs.length * (s.length + 1) ≤ 120 * 256 := Nat.mul_le_mul h2 (by omega)
   rw [max_n]; omega
  have HC := Lib.hid (trialof_c (s := s) (B := 255) (c1 := fun _ => 0) (n1 := 0) (P1 := fun _ => False) lb lo xs.length lc rfl h1 h2 hsub (fun l m h => h.elim) (fun l h => h.elim) (by rw [max_n]; omega) hi2 hl2 hm2 w hx hT h0)
  have HR := Lib.hid (fun (W : World) (h : NodesAt W lb lo xs) => refs_in lb lo xs.length lc xs rfl h1 h2 hfit ⟨t, hp⟩ false (by rw [ref_any hp]; simp; omega) W h)
  have HF := Lib.hid (fun (v : TrV) (hv : v.n = xs.length) => fx_plain (v := v) (s := s) hp hr hv hsl hfit)
  have HS := Lib.hid (And.intro hsl (And.intro hsm hr))
  clear hx hT hsub hi2 hl2 hm2 hfit hsm hr hp hsl
  go_enter Tryz.func43, Tryz.ntmps43
  go_wp2_with fail
  refine HC.out.mono ?_
  rintro e w1 ⟨X, v, rfl, hlp, hlb, hlo, hvn, hlc, hge, hiv, hB1⟩
  have HH := Lib.hid (And.intro hlp (And.intro hvn (And.intro hge (And.intro hiv hB1))))
  clear hlp hlb hlo hvn hlc hge hiv hB1
  go_wp2_with fail
  refine (HR.out w1 (HXX.out.below HH.out.2.2.2.2 lx)).mono ?_
  rintro e w2 ⟨rfl, hB2⟩
  go_wp2
  go_ret
  obtain ⟨hlp, hvn, hge, hiv, hB1⟩ := HH.out
  refine ⟨X, v, _, _, rfl, trial_none (c1 := fun _ => 0) (n1 := 0) (c2 := c2) (n2 := _) t (root_sub HP.out) (by rw [hvn, HP.out.2.2.1]) HS.out.1 (HF.out v hvn) hlp (pat_any HP.out), (hiv (fun _ => False) (fun b hb => hb.elim)).keeps (Keeps.of_below hB2), fun b hb => ?_, hB1.trans (hB2.mono hB1.size)⟩
  rcases hb with (hb | hb | hb) | hb
  ·omega
  ·omega
  ·omega
  ·exact hb.elim
 ·obtain ⟨hs6, hn24⟩ := hsm hr
  obtain ⟨N, hN⟩ : ∃ N, N = 29 ^ 9 := ⟨_, rfl⟩
  have hNv : N = 14507145975869 := by rw [hN]
  obtain ⟨c1, hi1, hl1⟩ := parts_coded s.length N hN hs6
  obtain ⟨c2, hi2, hl2⟩ := state_coded xs.length s.length 255 N
  obtain ⟨d2, hj2, hk2⟩ := state_coded xs.length s.length 255 0
  have hm2 : xs.length * (s.length + 1) * (255 + 1) * (N + 1) < maxLen := by
   have q1 : xs.length * (s.length + 1) ≤ 24 * 7 := Nat.mul_le_mul hn24 (by omega)
   have q2 : xs.length * (s.length + 1) * (255 + 1) * (N + 1) ≤ 24 * 7 * (255 + 1) * (N + 1) := Nat.mul_le_mul_right _ (Nat.mul_le_mul_right _ q1)
   rw [max_n]
   rw [hNv] at q2 ⊢
   omega
  have hm3 : xs.length * (s.length + 1) * (255 + 1) * (0 + 1) < maxLen := by
   have : xs.length * (s.length + 1) ≤ 24 * 7 := Nat.mul_le_mul hn24 (by omega)
   rw [max_n]; omega
  have hN1 : N < maxLen := by rw [max_n, hNv]; omega
  have hsub2 : ∀ i, i < xs.length → ∃ t, Sub (fun i => (xs.map lnd)[i]?) t i := fun i hi => by
   obtain ⟨u, hu⟩ := hsub i hi
   exact ⟨loosen u, hu.loosen⟩
  have HC := Lib.hid (trialof_c (s := s) (B := 255) (c1 := c1) (n1 := N) (P1 := okP s.length) lb lo xs.length lc rfl h1 h2 hsub hi1 hl1 hN1 hi2 hl2 hm2 w hx hT h0)
  have HR := Lib.hid (fun (W : World) (h : NodesAt W lb lo xs) => refs_in lb lo xs.length lc xs rfl h1 h2 hfit ⟨t, hp⟩ true (by rw [ref_any hp]; simp; omega) W h)
  have HLO := Lib.hid (fun (W : World) (h : NodesAt W lb lo xs) => loosened_c lb lo xs.length lc xs rfl h1 h2 W h)
  have HC2 := Lib.hid (fun (g cap : Nat) (W : World) (h : NodesAt W g 0 (xs.map lnd)) (hT : TabAt 0 Lib.deBruijn64tab W) (h0 : 0 < W.heap.size) => trialof_c (s := s) (B := 255) (c1 := fun _ => 0) (n1 := 0) (P1 := fun _ => False) g 0 xs.length cap (by rw [List.length_map]) h1 h2 hsub2 (fun l m h => h.elim) (fun l h => h.elim) (by rw [max_n]; omega) hj2 hk2 hm3 W h hT h0)
  have HF := Lib.hid (fun (v : TrV) (hv : v.n = xs.length) => fx_refs (v := v) (s := s) hp hv hsl hfit)
  have HF2 := Lib.hid (fun (v : TrV) (hv : v.n = xs.length) => fx_loose (v := v) (s := s) hp hv hsl hfit)
  have HS := Lib.hid hsl
  clear hx hT hsub hsub2 hi1 hl1 hi2 hl2 hj2 hk2 hm2 hm3 hN1 hNv hN hfit hsm hr hp hsl hs6 hn24
  go_enter Tryz.func43, Tryz.ntmps43
  go_wp2_with fail
  refine HC.out.mono ?_
  rintro e w1 ⟨X, v, rfl, hlp, hlb, hlo, hvn, hlc, hge, hiv, hB1⟩
  have hi0 := hiv (fun _ => False) (fun b hb => hb.elim)
  have hlts := hi0.lts
  have lw1 := hB1.size
  have HH := Lib.hid (And.intro hlp (And.intro hvn (And.intro hge (And.intro hi0 (And.intro hB1 (And.intro hlts hlb))))))
  clear hlp hlb hlo hvn hlc hge hiv hB1 hi0 hlts
  go_wp2_with fail
  refine (HR.out w1 (HXX.out.below HH.out.2.2.2.2.1 lx)).mono ?_
  rintro e w2 ⟨rfl, hB2⟩
  have lw2 := hB2.size
  have hB12 := HH.out.2.2.2.2.1.trans (hB2.mono lw1)
  have HB2 := Lib.hid (And.intro hB2 hB12)
  clear hB2 hB12
  go_wp2_with fail
  refine (HLO.out w2 (HXX.out.below HB2.out.2 lx)).mono ?_
  rintro e w3 ⟨⟨g, cap, rfl, hg, hxg⟩, hB3⟩
  have lw3 := hB3.size
  have hB13 := HB2.out.2.trans (hB3.mono (by omega))
  have hT3 : TabAt 0 Lib.deBruijn64tab w3 := fun j hj => by
   have e := hB13.block 0 h0
   have := HTT.out j hj
   rw [← this]
   simp only [World.cell?, e]
  have HC3 := Lib.hid (HC2.out g cap w3 hxg hT3 (by omega))
  have HB3 := Lib.hid (And.intro hB3 (And.intro hB13 hg))
  clear hT3 hxg hB3 hB13 hg
  go_wp2_with fail
  refine HC3.out.mono ?_
  rintro e w4 ⟨X2, v2, rfl, hlp2, hlb2, hlo2, hvn2, hlc2, hge2, hiv2, hB4⟩
  have lw4 := hB4.size
  have hk14 : Keeps (fun b => False ∨ w1.heap.size ≤ b) w1 w4 := ((Keeps.of_below HB2.out.1).trans (Keeps.of_below HB3.out.1)).trans (Keeps.of_below hB4)
  have hi4 := HH.out.2.2.2.1.fresh.keeps hk14
  have q1 := hi4.tr.c6
  rw [HH.out.1] at q1
  have q2 : w4.frozen? ⟨X, 6, none⟩ = false := by simp [World.frozen?, hi4.tr.heap]
  have lX := HH.out.2.2.1.1
  have H4 := Lib.hid (And.intro hi4 (And.intro hlp2 (And.intro hvn2 (And.intro hge2 (And.intro hiv2 hB4)))))
  clear hk14 hi4 hlp2 hlb2 hlo2 hvn2 hlc2 hge2 hiv2 hB4 HC3 HC
  go_wp2
  go_ret
  obtain ⟨hlp, hvn, hge, hi0, hB1, ⟨l1, l2, l3, l4, l5, l6, l7⟩, hlb⟩ := HH.out
  obtain ⟨hi4, hlp2, hvn2, hge2, hiv2, hB4⟩ := H4.out
  have hg := HB3.out.2.2
  have i5 := hi4.relp (by rw [hlb]; omega) (by omega) (by omega) (some ⟨X2, 0, none⟩)
  have j5 := (hiv2 (fun b => b < w3.heap.size ∧ b ≠ g ∧ b ≠ 0) (fun b hb => hb)).keeps ((Keeps.refl (fun b => b < w3.heap.size ∧ b ≠ g ∧ b ≠ 0) w4).setCell (p := ⟨X, 6, none⟩) (by show X < w3.heap.size ∧ X ≠ g ∧ X ≠ 0; omega) (.pointer (some ⟨X2, 0, none⟩)))
  refine ⟨X, ⟨v.lb, v.lo, v.n, v.lc, v.rb, v.bn, v.br, v.bl, some ⟨X2, 0, none⟩⟩, _, _, rfl, trial_some (X2 := X2) (v2 := v2) (c1 := c1) (n1 := N) (c2 := c2) (n2 := _) (d1 := fun _ => 0) (m1 := 0) (d2 := d2) (m2 := _) t (root_sub HP.out) (by show v.n = _; rw [hvn, HP.out.2.2.1]) (by show v2.n = v.n; rw [hvn, hvn2]) HS.out (HF.out _ hvn) (HF2.out v2 hvn2) rfl hlp2 (pat_any HP.out) (any_lnd HP.out.2.2.2.2.1), ⟨i5.mono (fun b hb => ?_), [], j5.mono (fun b hb => ?_)⟩, fun b hb => ?_, ((HB3.out.2.1.trans (hB4.mono (by omega))).setCell (p := ⟨X, 6, none⟩) lX _)⟩
  ·rcases hb with hb | hb | hb | hb
   ·exact .inl hb
   ·exact .inr (by omega)
   ·exact .inr (by omega)
   ·exact .inr (by omega)
  ·rcases hb with hb | hb | hb | hb
   ·exact hb.elim
   ·have hb : b = v.bn := hb
    omega
   ·have hb : b = v.br := hb
    omega
   ·have hb : b = v.bl := hb
    omega
  ·rcases hb with (hb | hb | hb) | (hb | hb | hb)
   ·have hb : b = v.bn := hb
    omega
   ·have hb : b = v.br := hb
    omega
   ·have hb : b = v.bl := hb
    omega
   ·omega
   ·omega
   ·omega
end Go.Proofs.YtgllmhheahlpjaaGreatDoor
namespace Go.Proofs.YtgllmhheahlpjaaGreatDoor
open Go.RowKit Go.Maps Go.WideMaps
def noC : Cp := fun _ => none
theorem all1_c (k : Int) (w : World) : Calls Tryz.prog 81 #[.int .i64 k] w fun e w' => e = .returned (capV noC) ∧ ∀ S, Keeps S w w' := by
 have HN := Lib.hid (fun w => mnone_c w)
 have hr0 : VRow (w.alloc (.cells cZ 27)) w.heap.size 10 27 (fun _ => .complex .f64 0 0) := VRow.new w 10 27 (fun _ => .complex .f64 0 0)
 have HR0 := Lib.hid hr0
 clear hr0
 go_enter Tryz.func81, Tryz.ntmps81
 go_wp2_with fail
 refine (HN.out _).mono ?_
 rintro e w2 ⟨rfl, hB⟩
 have hsz := hB.size
 have lw : w.heap.size < w2.heap.size := by simp at hsz; omega
 have hr2 := HR0.out.below hB (by simp)
 have hk2 : ∀ S, Keeps S w w2 := fun S => ((Keeps.refl S w).alloc (.cells cZ 27)).trans (Keeps.of_below hB)
 have HK := Lib.hid hk2
 obtain ⟨Z, hZ⟩ : ∃ Z : Cp, Z = fun _ => none := ⟨_, rfl⟩
 rw [← hZ]
 have HZ := Lib.hid hZ
 clear hB hk2 hZ hsz
 unfold capV
 obtain ⟨r0, r1, r2, r3, r4, r5, r6, r7, r8, r9, f0, f1, f2, f3, f4, f5, f6, f7, f8, f9⟩ := hr2.rf10
 obtain ⟨s0, s1, s2, s3, s4, s5, s6, s7, s8, s9⟩ := st10 (w := w2) (b := w.heap.size) hr2 Z
 have HKS := Lib.hid (kp10 (w := w2) (b := w.heap.size) Z)
 have HSS := Lib.hid (And.intro s0 (And.intro s1 (And.intro s2 (And.intro s3 (And.intro s4 (And.intro s5 (And.intro s6 (And.intro s7 (And.intro s8 s9)))))))))
 clear hr2 s0 s1 s2 s3 s4 s5 s6 s7 s8 s9
 go_wp2
 obtain ⟨s0, s1, s2, s3, s4, s5, s6, s7, s8, s9⟩ := HSS.out
 refine bodyPost_ret (v := .agg (cH Z)) (by simp [results, Tryz.results81, go_sem, s0, s1, s2, s3, s4, s5, s6, s7, s8, s9]) rfl ⟨?_, fun S => (HK.out S).trans2 HKS.out (fun i hi e => by omega)⟩
 rw [HZ.out]
 rfl
theorem all_c {X : Nat} {v : TrV} {s : List UInt8} {t : T} {M2 : Nat → Prop} {J : (Nat → Prop) → List Lit → World → Prop} (tr : Trial X v s t M2 J) (i : Nat) (hi : i ≤ s.length) (E : Nat → Prop) (es : List Lit) (w : World) (hJ : J E es w) (hE : ∀ b, E b → b < w.heap.size) :
  Calls Tryz.prog 51 #[.pointer (some ⟨X, 0, none⟩), .int .i64 i] w fun e w' => ∃ (b : Nat) (fs : List Lit), e = .returned (PV (s.length / 64 + 1) b) ∧ PRow w' b (s.length / 64 + 1) (fun j => (semT s t).ends i 0 noC j) ∧ w.heap.size ≤ b ∧ ¬ (Mt v b ∨ M2 b) ∧ es <+: fs ∧ J E fs w' ∧ Keeps (fun b => Mt v b ∨ M2 b) w w' := by
 have hsl := tr.sl
 have htr := tr.tr hJ
 have q0 := htr.c0
 have q1 := htr.c1
 have hsz : (⟨s.toArray⟩ : ByteArray).size = s.length := by simp [ByteArray.size]
 have HNP := Lib.hid (fun w => newplaces_c s.length (by omega) w)
 have HTR := Lib.hid tr
 have HJ := Lib.hid (And.intro hJ hE)
 have hn := tr.n
 have HTN := Lib.hid hn
 have hpos : 1 ≤ v.n := by have := t.size_pos; omega
 have hn2 := tr.n2
 have e1 : (v.n : Int) - 1 = ((t.size - 1 : Nat) : Int) := by omega
 have HE1 := Lib.hid e1
 clear htr hJ hE hn e1
 go_enter Tryz.func51, Tryz.ntmps51
 go_wp2_with fail
 refine (HNP.out _).mono ?_
 rintro e w1 ⟨rfl, hw1⟩
 have hk1 : ∀ S, Keeps S w w1 := fun S => by rw [hw1]; exact (Keeps.refl S w).alloc _
 have hrow : PRow w1 w.heap.size (s.length / 64 + 1) (fun _ => false) := by rw [hw1]; exact PRow.new w _ _
 have hJ1 : J (fun b => E b ∨ b = w.heap.size) es w1 := HTR.out.mono (HTR.out.keeps (HTR.out.fresh HJ.out.1) (hk1 _)) (fun b hb => hb.imp id (fun e => by omega))
 have lw1 : w.heap.size < w1.heap.size := hrow.lt
 have hE1 : ∀ b, (E b ∨ b = w.heap.size) → b < w1.heap.size := fun b hb => by
  rcases hb with hb | hb
  ·have := HJ.out.2 b hb; omega
  ·omega
 have q0 : w1.cell? ⟨X, 0, none⟩ = some (.slice (some ⟨v.lb, v.lo, none⟩) v.n v.lc) := (HTR.out.tr hJ1).c0
 have hcall := HTR.out.go i hi 0 noC _ es w1 w.heap.size (fun _ => false) 81 #[] (by omega) HTR.out.cnt (fun g a b e => by cases e) hJ1 hE1 (.inr rfl) hrow ⟨fun w => rfl, fun fs w' hp hJ' hk => (all1_c i w').mono (by
  rintro e w'' ⟨rfl, hk2⟩
  exact ⟨fs, rfl, List.prefix_refl _, HTR.out.keeps hJ' (hk2 _), hk2 _⟩)⟩
 rw [← HE1.out] at hcall
 unfold PV at hcall
 have HCALL := Lib.hid hcall
 have hltm := HTR.out.lt HJ.out.1
 have HK1 := Lib.hid (And.intro hk1 hltm)
 clear hcall hrow hJ1 hE1 hk1 hw1 hltm
 go_wp2_with fail
 refine HCALL.out.mono ?_
 rintro e w2 ⟨fs, rfl, hrow2, hpre, hJ2, hk2⟩
 have HF := Lib.hid (And.intro hrow2 (And.intro hpre (And.intro hJ2 hk2)))
 clear hrow2 hpre hJ2 hk2 HCALL
 go_wp2
 go_ret
 refine ⟨w.heap.size, fs, rfl, ?_, Nat.le_refl _, fun hb => by have := HK1.out.2 _ hb; omega, HF.out.2.1, HTR.out.mono HF.out.2.2.1 (fun b hb => .inl hb), (HK1.out.1 _).trans2 HF.out.2.2.2 (fun i hi e => e.elim id (fun e => by omega))⟩
 have := HF.out.1
 simp only [Bool.false_or] at this
 exact this
end Go.Proofs.YtgllmhheahlpjaaGreatDoor
namespace Go.Proofs.YtgllmhheahlpjaaGreatDoor
open Go.RowKit Go.Maps Go.WideMaps
section
variable {X : Nat} {v : TrV} {s : List UInt8} {t : T} {M2 : Nat → Prop} {J : (Nat → Prop) → List Lit → World → Prop}
theorem whole_lt (tr : Trial X v s t M2 J) (i : Nat) (hi : i ≤ s.length) (j : Int) (hj : j < i) (E : Nat → Prop) (es : List Lit) (w : World) (hJ : J E es w) (hE : ∀ b, E b → b < w.heap.size) :
  Calls Tryz.prog 44 #[.pointer (some ⟨X, 0, none⟩), .int .i64 i, .int .i64 j] w fun e w' => ∃ fs : List Lit, e = .returned (.tuple #[capV noC, .bool false]) ∧ es <+: fs ∧ J E fs w' ∧ Keeps (fun b => Mt v b ∨ M2 b) w w' := by
 have hsl := tr.sl
 have hJ1 : J (fun b => E b ∨ b = w.heap.size) es (w.alloc (.cells cZ 27)) := tr.mono (tr.keeps (tr.fresh hJ) (((Keeps.refl _ w)).alloc _)) (fun b hb => hb.imp id (fun e => by omega))
 have hE1 : ∀ b, (E b ∨ b = w.heap.size) → b < (w.alloc (.cells cZ 27)).heap.size := fun b hb => by
  rw [World.size_alloc]
  rcases hb with hb | hb
  ·have := hE b hb; omega
  ·omega
 have hrz : VRow (w.alloc (.cells cZ 27)) w.heap.size 10 27 (fun _ => .complex .f64 0 0) := VRow.new w 10 27 (fun _ => .complex .f64 0 0)
 have hk1 : Keeps (fun b => Mt v b ∨ M2 b) w (w.alloc (.cells cZ 27)) := (Keeps.refl _ w).alloc _
 have HTR := Lib.hid tr
 have HN := Lib.hid (fun w => mnone_c w)
 have HFIN := Lib.hid (And.intro (List.prefix_refl es) (And.intro hJ1 hk1))
 clear tr hJ hE hJ1 hk1 hE1
 go_enter Tryz.func44, Tryz.ntmps44
 go_wp2_with fail
 refine (HN.out _).mono ?_
 rintro e wn ⟨rfl, hBn⟩
 have hrn := hrz.below hBn hrz.lt
 have lwn : w.heap.size < wn.heap.size := hrn.lt
 obtain ⟨Z, hZ⟩ : ∃ Z : Cp, Z = fun _ => none := ⟨_, rfl⟩
 rw [← hZ]
 have HZ := Lib.hid hZ
 have HBN := Lib.hid hBn
 clear hBn hZ
 unfold capV
 obtain ⟨r0, r1, r2, r3, r4, r5, r6, r7, r8, r9, f0, f1, f2, f3, f4, f5, f6, f7, f8, f9⟩ := hrn.rf10
 obtain ⟨s0, s1, s2, s3, s4, s5, s6, s7, s8, s9⟩ := st10 (w := wn) (b := w.heap.size) hrn Z
 have HKS := Lib.hid (kp10 (w := wn) (b := w.heap.size) Z)
 have HSS := Lib.hid (And.intro s0 (And.intro s1 (And.intro s2 (And.intro s3 (And.intro s4 (And.intro s5 (And.intro s6 (And.intro s7 (And.intro s8 s9)))))))))
 clear hrn s0 s1 s2 s3 s4 s5 s6 s7 s8 s9
 go_wp2
 obtain ⟨s0, s1, s2, s3, s4, s5, s6, s7, s8, s9⟩ := HSS.out
 first
 | refine bodyPost_ret (v := .tuple #[.agg (cH Z), .bool false]) (by simp [results, Tryz.results44, go_sem, s0, s1, s2, s3, s4, s5, s6, s7, s8, s9]) rfl ⟨es, ?_, HFIN.out.1, HTR.out.mono (HTR.out.keeps (HTR.out.keeps HFIN.out.2.1 (Keeps.of_below HBN.out)) (HKS.out.mono (fun i _ e => .inr (by subst e; omega)))) (fun b hb => .inl hb), (HFIN.out.2.2.trans (Keeps.of_below HBN.out)).trans2 HKS.out (fun i hi e => by omega)⟩
 | refine bodyPost_ret (v := .tuple #[.agg (cH Z), .bool false]) (by simp [results, Tryz.results44, go_sem, s0, s1, s2, s3, s4, s5, s6, s7, s8, s9]) rfl ⟨?_, es, HFIN.out.1, HTR.out.mono (HTR.out.keeps (HTR.out.keeps HFIN.out.2.1 (Keeps.of_below HBN.out)) (HKS.out.mono (fun i _ e => .inr (by subst e; omega)))) (fun b hb => .inl hb), (HFIN.out.2.2.trans (Keeps.of_below HBN.out)).trans2 HKS.out (fun i hi e => by omega)⟩
 show Ending.returned (.tuple #[capV Z, .bool false]) = Ending.returned (.tuple #[capV noC, .bool false])
 rw [HZ.out]
 rfl
end
end Go.Proofs.YtgllmhheahlpjaaGreatDoor
