/- match: what holds of a trial in memory. -/
import Derived.Test.YtgllmhheahlpjaaGreatDoorJMbS
set_option linter.unusedVariables false
set_option linter.unusedSimpArgs false
set_option maxRecDepth 100000
set_option maxHeartbeats 40000000
namespace Go.Proofs.YtgllmhheahlpjaaGreatDoor
open Go.RowKit Go.Maps Go.WideMaps
noncomputable def pkey (P : Nat → Int × Int) : Lit := (keyOf Tryz.prog 172 (ptV P)).getD (.bool false)
def partsOf (G : Gs) (had : Cp) : Nat → Int × Int := fun g => if G g then (match had g with | some (a, b) => ((a : Int), (b : Int)) | none => (-1, -1)) else (0, 0)
theorem parts_wf {G : Gs} {had : Cp} {n : Nat} (hc : CapOk n had) (hn : n ≤ 999999999) (k : Nat) : (Lit.int .i64 (partsOf G had k).1).wf = true ∧ (Lit.int .i64 (partsOf G had k).2).wf = true := by
 unfold partsOf
 split
 ·cases hh : had k with
  | none => exact ⟨int_wf (by simp), int_wf (by simp)⟩
  | some p =>
   obtain ⟨a, b⟩ := p
   have := hc k a b hh
   exact ⟨int_wf (by simp; omega), int_wf (by simp; omega)⟩
 ·exact ⟨int_wf (by simp), int_wf (by simp)⟩
theorem pkey_of {G : Gs} {had : Cp} {n : Nat} (hc : CapOk n had) (hn : n ≤ 999999999) : keyOf Tryz.prog 172 (ptV (partsOf G had)) = some (pkey (partsOf G had)) := by
 obtain ⟨l, hl⟩ := keyOf_parts (partsOf G had) (fun k _ => parts_wf hc hn k)
 unfold pkey
 rw [hl]; rfl
theorem ptV_at {P Q : Nat → Int × Int} (h : ptV P = ptV Q) : ∀ k, k < 10 → P k = Q k := by
 simp only [ptV, Value.agg.injEq, Array.mk.injEq, List.cons.injEq, Value.int.injEq, true_and, and_true] at h
 intro k hk
 rcases (by omega : k = 0 ∨ k = 1 ∨ k = 2 ∨ k = 3 ∨ k = 4 ∨ k = 5 ∨ k = 6 ∨ k = 7 ∨ k = 8 ∨ k = 9) with rfl | rfl | rfl | rfl | rfl | rfl | rfl | rfl | rfl | rfl <;> exact Prod.ext (by simp [h]) (by simp [h])
theorem pkey_same {G : Gs} {had had' : Cp} {n : Nat} (hG : ∀ g, G g = true → g < 10) (hc : CapOk n had) (hc' : CapOk n had') (hn : n ≤ 999999999) (h : pkey (partsOf G had) = pkey (partsOf G had')) : ∀ g, G g = true → had g = had' g := by
 have e := partsKeyed.inj (pkey_of hc hn) (by rw [h]; exact pkey_of hc' hn)
 intro g hg
 have := ptV_at e g (hG g hg)
 unfold partsOf at this
 rw [if_pos hg, if_pos hg] at this
 cases h1 : had g with
 | none =>
  cases h2 : had' g with
  | none => rfl
  | some p => obtain ⟨a, b⟩ := p; rw [h1, h2] at this; simp at this
 | some p =>
  obtain ⟨a, b⟩ := p
  cases h2 : had' g with
  | none => rw [h1, h2] at this; simp at this
  | some q =>
   obtain ⟨c, d⟩ := q
   rw [h1, h2] at this
   simp only [Prod.mk.injEq] at this
   rw [show a = c by omega, show b = d by omega]
noncomputable def numL (es : List Lit) : Lit → Option Value := fun l => (pos es l).map fun k => .int .i64 ((k + 1 : Nat) : Int)
noncomputable def nOf (es : List Lit) (G : Gs) (had : Cp) : Option Nat := if noG G = true then some 0 else (pos es (pkey (partsOf G had))).map (· + 1)
theorem nOf_pre {es fs : List Lit} {G : Gs} {had : Cp} {q : Nat} (hp : es <+: fs) (h : nOf es G had = some q) : nOf fs G had = some q := by
 obtain ⟨r, rfl⟩ := hp
 unfold nOf at h ⊢
 split at h
 ·rename_i hn; rw [if_pos hn]; exact h
 ·rename_i hn
  rw [if_neg hn]
  cases hp : pos es (pkey (partsOf G had)) with
  | none => rw [hp] at h; cases h
  | some k => rw [pos_pre r hp]; rw [hp] at h; exact h
theorem nOf_same {es : List Lit} {S : Sem} {had had' : Cp} {q n : Nat} (hS : SOk n S) (hc : CapOk n had) (hc' : CapOk n had') (hn : n ≤ 999999999) (h : nOf es S.asked had = some q) (h' : nOf es S.asked had' = some q) : ∀ g, S.asked g = true → had g = had' g := by
 unfold nOf at h h'
 split at h
 ·rename_i hno
  intro g hg
  have := noG_iff.1 hno g (hS.ten g (.inl hg))
  rw [hg] at this; cases this
 ·rename_i hno
  rw [if_neg hno] at h'
  cases h1 : pos es (pkey (partsOf S.asked had)) with
  | none => rw [h1] at h; cases h
  | some k =>
   cases h2 : pos es (pkey (partsOf S.asked had')) with
   | none => rw [h2] at h'; cases h'
   | some k' =>
    rw [h1] at h; rw [h2] at h'
    have a := Option.some.inj h
    have b := Option.some.inj h'
    simp only at a b
    obtain rfl : k = k' := by omega
    refine pkey_same (fun g hg => hS.ten g (.inl hg)) hc hc' hn ?_
    have e1 := (pos_lt h1).2
    have e2 := (pos_lt h2).2
    rw [e1] at e2
    exact Option.some.inj e2
def PV (N b : Nat) : Value := .slice (some ⟨b, 0, none⟩) N N
def okP (n : Nat) (l : Lit) : Prop := ∃ (G : Gs) (had : Cp), (∀ g, G g = true → 1 ≤ g ∧ g < 10) ∧ CapOk n had ∧ l = pkey (partsOf G had)
def okS (n len B Q : Nat) (l : Lit) : Prop := ∃ i p c q : Nat, i < n ∧ p ≤ len ∧ c ≤ B ∧ q ≤ Q ∧ l = stK i p c q
theorem PRow.heap_ok {w w' : World} {b n : Nat} {f : Nat → Bool} (h : PRow w b n f) (e : w'.heap[b]? = w.heap[b]?) : PRow w' b n f := ⟨e.trans h.heap⟩
theorem NodesAt.heap_ok {w w' : World} {b o : Nat} {xs : List Nd} (h : NodesAt w b o xs) (e : w'.heap[b]? = w.heap[b]?) : NodesAt w' b o xs := by
 have hlt : b < w'.heap.size := by
  have h1 := Array.getElem?_eq_getElem h.lt
  rw [← e] at h1
  exact (Array.getElem?_eq_some_iff.1 h1).1
 refine ⟨hlt, fun i x hx j v hv => ?_⟩
 rw [show w'.cell? ⟨b, o + i * 10 + j, none⟩ = w.cell? ⟨b, o + i * 10 + j, none⟩ by simp only [World.cell?, e]]
 exact h.cell i x hx j v hv
structure Fx (v : TrV) (s : List UInt8) (xs : List Nd) (B : Nat) (P1 : Lit → Prop) : Prop where
 len : xs.length = v.n
 n1 : 1 ≤ v.n
 n2 : v.n ≤ 120
 sl : s.length ≤ 100000
 sub : ∀ i, i < v.n → ∃ t, Sub (fun i => xs[i]?) t i
 fits : ∀ (i : Nat) (x : Nd), xs[i]? = some x → x.Fits
 ok : ∀ (i : Nat) (t : T), i < v.n → Sub (fun i => xs[i]?) t i → MOk t ∧ SOk s.length (semT s t) ∧ ∀ g, (semT s t).asked g = true → 1 ≤ g
 P1 : ∀ (i : Nat) (t : T) (had : Cp), i < v.n → Sub (fun i => xs[i]?) t i → CapOk s.length had → noG (semT s t).asked ≠ true → P1 (pkey (partsOf (semT s t).asked had))
 B1 : 255 ≤ B
 B2 : s.length ≤ B
 B3 : B ≤ 1000000
section
variable (X : Nat) (v : TrV) (s : List UInt8) (xs : List Nd) (B : Nat) (c1 : Lit → Nat) (n1 : Nat) (P1 : Lit → Prop) (c2 : Lit → Nat) (n2 : Nat)
structure Iv (E : Nat → Prop) (es : List Lit) (w : World) : Prop where
 tr : TrAt w X v s
 nodes : NodesAt w v.lb v.lo xs
 roles : ∃ F, URow w v.rb (v.n * 3) F ∧ ∀ (j : Nat) (t : T), j < v.n → Sub (fun i => xs[i]?) t j → F (j * 3) = gw (semT s t).asked ∧ F (j * 3 + 1) = gw (semT s t).always ∧ F (j * 3 + 2) = gw (semT s t).ever
 tab : TabAt 0 Lib.deBruijn64tab w
 nd : es.Nodup
 ky : ∀ l ∈ es, WideAt.IsKeyLit l
 nums : MapA 172 w v.bn c1 n1 P1 (numL es)
 reach : ∃ L, MapA 142 w v.br c2 n2 (okS v.n s.length B n1) L ∧ ∀ (n p c q : Nat) (u : Value), (n < v.n ∧ p ≤ s.length ∧ c ≤ B ∧ q ≤ n1) → L (stK n p c q) = some u → ∃ (b : Nat) (t : T) (had : Cp), u = PV (s.length / 64 + 1) b ∧ ¬ E b ∧ b ≠ 0 ∧ Sub (fun i => xs[i]?) t n ∧ CapOk s.length had ∧ nOf es (semT s t).asked had = some q ∧ PRow w b (s.length / 64 + 1) (fun j => (semT s t).ends p c had j)
 left : ∃ L, MapA 142 w v.bl c2 n2 (okS v.n s.length B n1) L ∧ ∀ (n p j q : Nat) (u : Value), (n < v.n ∧ p ≤ s.length ∧ j ≤ B ∧ q ≤ n1) → L (stK n p j q) = some u → ∃ (t : T) (had : Cp), Sub (fun i => xs[i]?) t n ∧ CapOk s.length had ∧ nOf es (semT s t).asked had = some q ∧ u = capV ((semT s t).walk p j (onlyC had (semT s t).asked))
 out : ¬ E X ∧ ¬ E v.lb ∧ ¬ E v.rb ∧ ¬ E v.bn ∧ ¬ E v.br ∧ ¬ E v.bl ∧ ¬ E 0
 ne : v.bn ≠ v.br ∧ v.bn ≠ v.bl ∧ v.br ≠ v.bl
end
section
variable {X : Nat} {v : TrV} {s : List UInt8} {xs : List Nd} {B : Nat} {c1 : Lit → Nat} {n1 : Nat} {P1 : Lit → Prop} {c2 : Lit → Nat} {n2 : Nat} {E E' : Nat → Prop} {es : List Lit} {w w' : World}
theorem Iv.mono (h : Iv X v s xs B c1 n1 P1 c2 n2 E es w) (hE : ∀ b, E' b → E b) : Iv X v s xs B c1 n1 P1 c2 n2 E' es w := by
 obtain ⟨L, h1, h2⟩ := h.reach
 refine ⟨h.tr, h.nodes, h.roles, h.tab, h.nd, h.ky, h.nums, ⟨L, h1, fun n p c q u hr hu => ?_⟩, h.left, ?_, h.ne⟩
 ·obtain ⟨b, t, had, a1, a2, a3⟩ := h2 n p c q u hr hu
  exact ⟨b, t, had, a1, fun e => a2 (hE b e), a3⟩
 ·obtain ⟨o1, o2, o3, o4, o5, o6, o7⟩ := h.out
  exact ⟨fun e => o1 (hE _ e), fun e => o2 (hE _ e), fun e => o3 (hE _ e), fun e => o4 (hE _ e), fun e => o5 (hE _ e), fun e => o6 (hE _ e), fun e => o7 (hE _ e)⟩
theorem Iv.lts (h : Iv X v s xs B c1 n1 P1 c2 n2 E es w) : X < w.heap.size ∧ v.lb < w.heap.size ∧ v.rb < w.heap.size ∧ v.bn < w.heap.size ∧ v.br < w.heap.size ∧ v.bl < w.heap.size ∧ 0 < w.heap.size := by
 obtain ⟨F, hF, _⟩ := h.roles
 obtain ⟨L, h1, _⟩ := h.reach
 obtain ⟨L', h2, _⟩ := h.left
 have := h.tr.lt
 exact ⟨h.tr.lt, h.nodes.lt, hF.lt, h.nums.blt, h1.blt, h2.blt, by omega⟩
theorem Iv.fresh (h : Iv X v s xs B c1 n1 P1 c2 n2 E es w) : Iv X v s xs B c1 n1 P1 c2 n2 (fun b => E b ∨ w.heap.size ≤ b) es w := by
 obtain ⟨l1, l2, l3, l4, l5, l6, l7⟩ := h.lts
 obtain ⟨o1, o2, o3, o4, o5, o6, o7⟩ := h.out
 obtain ⟨L, h1, h2⟩ := h.reach
 refine ⟨h.tr, h.nodes, h.roles, h.tab, h.nd, h.ky, h.nums, ⟨L, h1, fun n p c q u hr hu => ?_⟩, h.left, ⟨fun e => e.elim o1 (fun e => by omega), fun e => e.elim o2 (fun e => by omega), fun e => e.elim o3 (fun e => by omega), fun e => e.elim o4 (fun e => by omega), fun e => e.elim o5 (fun e => by omega), fun e => e.elim o6 (fun e => by omega), fun e => e.elim o7 (fun e => by omega)⟩, h.ne⟩
 obtain ⟨b, t, had, a1, a2, a3, a4, a5, a6, a7⟩ := h2 n p c q u hr hu
 exact ⟨b, t, had, a1, fun e => e.elim a2 (fun e => by have := a7.lt; omega), a3, a4, a5, a6, a7⟩
theorem Iv.keeps (h : Iv X v s xs B c1 n1 P1 c2 n2 E es w) (k : Keeps E w w') : Iv X v s xs B c1 n1 P1 c2 n2 E es w' := by
 obtain ⟨l1, l2, l3, l4, l5, l6, l7⟩ := h.lts
 obtain ⟨o1, o2, o3, o4, o5, o6, o7⟩ := h.out
 obtain ⟨F, hF, hF2⟩ := h.roles
 obtain ⟨L, h1, h2⟩ := h.reach
 obtain ⟨L', h3, h4⟩ := h.left
 refine ⟨⟨(k.block _ l1 o1).trans h.tr.heap⟩, h.nodes.heap_ok (k.block _ l2 o2), ⟨F, ⟨(k.block _ l3 o3).trans hF.heap⟩, hF2⟩, fun j hj => ?_, h.nd, h.ky, h.nums.of_heap (k.block _ l4 o4), ⟨L, h1.of_heap (k.block _ l5 o5), fun n p c q u hr hu => ?_⟩, ⟨L', h3.of_heap (k.block _ l6 o6), h4⟩, h.out, h.ne⟩
 ·have e := k.block _ l7 o7
  have := h.tab j hj
  rw [← this]
  simp only [World.cell?, e]
 ·obtain ⟨b, t, had, a1, a2, a3, a4, a5, a6, a7⟩ := h2 n p c q u hr hu
  exact ⟨b, t, had, a1, a2, a3, a4, a5, a6, a7.heap_ok (k.block _ a7.lt a2)⟩
theorem Iv.role (h : Iv X v s xs B c1 n1 P1 c2 n2 E es w) {j : Nat} {t : T} (hj : j < v.n) (ht : Sub (fun i => xs[i]?) t j) : RoleAt w v.rb j (semT s t) := by
 obtain ⟨F, hF, hF2⟩ := h.roles
 obtain ⟨f0, f1, f2⟩ := hF2 j t hj ht
 exact hF.role (by omega) f0 f1 f2
end
section
variable {X : Nat} {v : TrV} {s : List UInt8} {xs : List Nd} {B : Nat} {c1 : Lit → Nat} {n1 : Nat} {P1 : Lit → Prop} {c2 : Lit → Nat} {n2 : Nat} {E E' : Nat → Prop} {es : List Lit} {w w' : World}
theorem Iv.apart (h : Iv X v s xs B c1 n1 P1 c2 n2 E es w) (fx : Fx v s xs B P1) {k : TypeId} {b N : Nat} {code : Lit → Nat} {ok : Lit → Prop} {L : Lit → Option Value} (m : MapA k w b code N ok L) :
  X ≠ b ∧ v.lb ≠ b ∧ v.rb ≠ b ∧ 0 ≠ b ∧ (∀ c n f, PRow w c (n + 1) f → c ≠ b) := by
 have hl := fx.len
 have h1 := fx.n1
 refine ⟨fun e => ?_, fun e => ?_, fun e => ?_, fun e => ?_, fun c n f hf e => ?_⟩
 ·subst e
  have := h.tr.c0
  rw [m.noCell] at this; cases this
 ·have := h.nodes.cell 0 (xs[0]'(by omega)) (List.getElem?_eq_getElem (by omega)) 0 _ rfl
  rw [e, m.noCell] at this; cases this
 ·obtain ⟨t, ht⟩ := fx.sub 0 (by omega)
  have := (h.role (j := 0) (by omega) ht).c0
  rw [e, m.noCell] at this; cases this
 ·have := h.tab 0 (by decide)
  rw [e, m.noCell] at this; cases this
 ·subst e
  have := hf.cell 0 (by omega)
  rw [m.noCell] at this; cases this
theorem Iv.upNums (h : Iv X v s xs B c1 n1 P1 c2 n2 E es w) (fx : Fx v s xs B P1) {fs : List Lit} (hk : Keeps (fun b => b = v.bn) w w') (hm : MapA 172 w' v.bn c1 n1 P1 (numL fs)) (hp : es <+: fs) (hnd : fs.Nodup) (hky : ∀ l ∈ fs, WideAt.IsKeyLit l) : Iv X v s xs B c1 n1 P1 c2 n2 E fs w' := by
 obtain ⟨l1, l2, l3, l4, l5, l6, l7⟩ := h.lts
 obtain ⟨a1, a2, a3, a4, a5⟩ := h.apart fx h.nums
 obtain ⟨F, hF, hF2⟩ := h.roles
 obtain ⟨L, h1, h2⟩ := h.reach
 obtain ⟨L', h3, h4⟩ := h.left
 obtain ⟨n1, n2, n3⟩ := h.ne
 refine ⟨⟨(hk.block _ l1 a1).trans h.tr.heap⟩, h.nodes.heap_ok (hk.block _ l2 a2), ⟨F, ⟨(hk.block _ l3 a3).trans hF.heap⟩, hF2⟩, fun j hj => ?_, hnd, hky, hm, ⟨L, h1.of_heap (hk.block _ l5 (Ne.symm n1)), fun n p c q u hr hu => ?_⟩, ⟨L', h3.of_heap (hk.block _ l6 (Ne.symm n2)), fun n p j q u hr hu => ?_⟩, h.out, h.ne⟩
 ·have e := hk.block _ l7 a4
  have := h.tab j hj
  rw [← this]
  simp only [World.cell?, e]
 ·obtain ⟨b, t, had, b1, b2, b3, b4, b5, b6, b7⟩ := h2 n p c q u hr hu
  exact ⟨b, t, had, b1, b2, b3, b4, b5, nOf_pre hp b6, b7.heap_ok (hk.block _ b7.lt (a5 _ _ _ b7))⟩
 ·obtain ⟨t, had, b1, b2, b3, b4⟩ := h4 n p j q u hr hu
  exact ⟨t, had, b1, b2, nOf_pre hp b3, b4⟩
theorem nat_wf {a : Nat} (h : a ≤ 9223372036854775807) : (Lit.int .i64 (a : Int)).wf = true := int_wf (by omega)
theorem Iv.upReach (h : Iv X v s xs B c1 n1 P1 c2 n2 E es w) (fx : Fx v s xs B P1) {n p c q b : Nat} {t : T} {had : Cp} {L L' : Lit → Option Value}
  (h2 : ∀ (n p c q : Nat) (u : Value), (n < v.n ∧ p ≤ s.length ∧ c ≤ B ∧ q ≤ n1) → L (stK n p c q) = some u → ∃ (b : Nat) (t : T) (had : Cp), u = PV (s.length / 64 + 1) b ∧ ¬ E b ∧ b ≠ 0 ∧ Sub (fun i => xs[i]?) t n ∧ CapOk s.length had ∧ nOf es (semT s t).asked had = some q ∧ PRow w b (s.length / 64 + 1) (fun j => (semT s t).ends p c had j))
  (hk : Keeps (fun b => b = v.br) w w') (hm : MapA 142 w' v.br c2 n2 (okS v.n s.length B n1) L') (hL' : ∀ l, l ≠ stK n p c q → L' l = L l) (hLn : ∀ u, L' (stK n p c q) = some u → u = PV (s.length / 64 + 1) b)
  (hr : n < v.n ∧ p ≤ s.length ∧ c ≤ B ∧ q ≤ n1) (hb : ¬ E b) (h0 : b ≠ 0) (ht : Sub (fun i => xs[i]?) t n) (hc : CapOk s.length had) (hn : nOf es (semT s t).asked had = some q) (hrow : PRow w' b (s.length / 64 + 1) (fun j => (semT s t).ends p c had j)) : Iv X v s xs B c1 n1 P1 c2 n2 E es w' := by
 obtain ⟨l1, l2, l3, l4, l5, l6, l7⟩ := h.lts
 obtain ⟨L0, h1, _⟩ := h.reach
 obtain ⟨a1, a2, a3, a4, a5⟩ := h.apart fx h1
 obtain ⟨F, hF, hF2⟩ := h.roles
 obtain ⟨L2, h3, h4⟩ := h.left
 obtain ⟨e1, e2, e3⟩ := h.ne
 have hmx := h.nums.max
 have emx : maxLen = 9223372036854775807 := by decide
 have hB3 := fx.B3; have hn2 := fx.n2; have hsl := fx.sl
 refine ⟨⟨(hk.block _ l1 a1).trans h.tr.heap⟩, h.nodes.heap_ok (hk.block _ l2 a2), ⟨F, ⟨(hk.block _ l3 a3).trans hF.heap⟩, hF2⟩, fun j hj => ?_, h.nd, h.ky, h.nums.of_heap (hk.block _ l4 e1), ⟨L', hm, fun n' p' c' q' u hr' hu => ?_⟩, ⟨L2, h3.of_heap (hk.block _ l6 (Ne.symm e3)), h4⟩, h.out, h.ne⟩
 ·have e := hk.block _ l7 a4
  have := h.tab j hj
  rw [← this]
  simp only [World.cell?, e]
 ·by_cases e : stK n' p' c' q' = stK n p c q
  ·obtain ⟨i1, i2, i3, i4⟩ := state_inj (nat_wf (by omega)) (nat_wf (by omega)) (nat_wf (by omega)) (nat_wf (by omega)) (nat_wf (by omega)) (nat_wf (by omega)) (nat_wf (by omega)) (nat_wf (by omega)) e
   obtain rfl : n' = n := by omega
   obtain rfl : p' = p := by omega
   obtain rfl : c' = c := by omega
   obtain rfl : q' = q := by omega
   exact ⟨b, t, had, hLn u hu, hb, h0, ht, hc, hn, hrow⟩
  ·rw [hL' _ e] at hu
   obtain ⟨b', t', had', b1, b2, b3, b4, b5, b6, b7⟩ := h2 n' p' c' q' u hr' hu
   exact ⟨b', t', had', b1, b2, b3, b4, b5, b6, b7.heap_ok (hk.block _ b7.lt (a5 _ _ _ b7))⟩
end
structure Blk (w : World) (b : Nat) (cs : Array Value) (t : TypeId) : Prop where
 heap : w.heap[b]? = some (.cells cs t (0, 0))
theorem Blk.cell {w : World} {b : Nat} {cs : Array Value} {t : TypeId} (h : Blk w b cs t) (j : Nat) : w.cell? ⟨b, j, none⟩ = cs[j]? := by simp [World.cell?, h.heap]
theorem Blk.lt {w : World} {b : Nat} {cs : Array Value} {t : TypeId} (h : Blk w b cs t) : b < w.heap.size := (Array.getElem?_eq_some_iff.1 h.heap).1
theorem Blk.fz {w : World} {b : Nat} {cs : Array Value} {t : TypeId} (h : Blk w b cs t) (j : Nat) : w.frozen? ⟨b, j, none⟩ = false := by simp [World.frozen?, h.heap]
theorem Blk.keeps {S : Nat → Prop} {w w' : World} {b : Nat} {cs : Array Value} {t : TypeId} (h : Blk w b cs t) (k : Keeps S w w') (hs : ¬ S b) : Blk w' b cs t := ⟨(k.block b h.lt hs).trans h.heap⟩
theorem Blk.new (w : World) (cs : Array Value) (t : TypeId) : Blk (w.alloc (.cells cs t)) w.heap.size cs t := ⟨by show (w.heap.push _)[w.heap.size]? = _; simp⟩
theorem Blk.below {w w' : World} {b B : Nat} {cs : Array Value} {t : TypeId} (h : Blk w b cs t) (hB : Below B w w') (hb : b < B) : Blk w' b cs t := ⟨(hB.block b hb).trans h.heap⟩
theorem Blk.alloc {w : World} {b : Nat} {cs : Array Value} {t : TypeId} (h : Blk w b cs t) (o : Obj) : Blk (w.alloc o) b cs t := h.below (B := w.heap.size) ((Below.refl _ w).alloc (Nat.le_refl _) o) h.lt
theorem Blk.other {w : World} {b : Nat} {cs : Array Value} {t : TypeId} (h : Blk w b cs t) {p : Addr} (hp : b ≠ p.block) (u : Value) : Blk (w.setCell p u) b cs t := ⟨(Below.heap_setCell w p u b hp).trans h.heap⟩
theorem Blk.drew {w : World} {b : Nat} {cs : Array Value} {t : TypeId} (h : Blk w b cs t) : Blk w.drew b cs t := ⟨h.heap⟩
theorem put_keeps (w : World) (b q : Nat) (u : Value) : Keeps (fun i => i = b) w (w.setCell ⟨b, q, none⟩ u).drew := ((Keeps.refl (fun i => i = b) w).setCell (p := ⟨b, q, none⟩) rfl u).drew
def Mt (v : TrV) (b : Nat) : Prop := b = v.bn ∨ b = v.br ∨ b = v.bl
end Go.Proofs.YtgllmhheahlpjaaGreatDoor
