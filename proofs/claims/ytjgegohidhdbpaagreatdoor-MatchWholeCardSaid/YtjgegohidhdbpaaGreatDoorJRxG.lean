/- areNumbered: the closure that calls itself, by induction on the tree. -/
import Derived.Test.YtjgegohidhdbpaaGreatDoorJRxD
open Go.Proofs.Tryz
set_option linter.unusedVariables false
set_option linter.unusedSimpArgs false
set_option maxRecDepth 100000
set_option maxHeartbeats 40000000
namespace Go.Proofs.YtjgegohidhdbpaaGreatDoor
open Go.RowKit
def num : T → Nat × (Nat → Bool) → Option (Nat × (Nat → Bool))
 | .leaf x, s => if x.kind = 8 then (if s.2 x.n.toNat = true then some s else none) else some s
 | .two _ a b, s => (num a s).bind (num b)
 | .times _ _ t, s => num t s
 | .group n t, s => if n = (s.1 : Int) + 1 then (num t (s.1 + 1, s.2)).map fun u => (u.1, fun i => if i = n.toNat then true else u.2 i) else none
theorem Kz : ∀ (t : T) (s u : Nat × (Nat → Bool)), num t s = some u → u.1 ≤ s.1 + t.size
 | .leaf x, s, u, h => by
  simp only [num] at h
  split at h
  ·split at h
   ·cases h; simp [T.size]
   ·cases h
  ·cases h; simp [T.size]
 | .two k a b, s, u, h => by
  simp only [num, Option.bind_eq_some_iff] at h
  obtain ⟨v, h1, h2⟩ := h
  have e1 := Kz a s v h1
  have e2 := Kz b v u h2
  simp only [T.size]; omega
 | .times m M t, s, u, h => by
  have := Kz t s u h
  simp only [T.size]; omega
 | .group n t, s, u, h => by
  simp only [num] at h
  split at h
  ·simp only [Option.map_eq_some_iff] at h
   obtain ⟨v, h1, rfl⟩ := h
   have := Kz t _ v h1
   simp only [T.size] at *; omega
  ·cases h
def ten (f : Nat → Bool) : Array Value := #[.bool (f 0), .bool (f 1), .bool (f 2), .bool (f 3), .bool (f 4), .bool (f 5), .bool (f 6), .bool (f 7), .bool (f 8), .bool (f 9)]
structure Env (B b o n cap : Nat) (xs : List Nd) (g : Nat) (en : Nat → Bool) (w : World) : Prop where
 lt : b < B
 l : w.heap[B]? = some (.cells #[.slice (some ⟨b, o, none⟩) n cap] 22 (0, 0))
 g : w.heap[B + 1]? = some (.cells #[.int .i64 g] 3 (0, 0))
 en : w.heap[B + 2]? = some (.cells (ten en) 130 (0, 0))
 f : w.heap[B + 3]? = some (.cells #[.func (.func 95) #[] #[.pointer (some ⟨B, 0, none⟩), .pointer (some ⟨B + 3, 0, none⟩), .pointer (some ⟨B + 1, 0, none⟩), .pointer (some ⟨B + 2, 0, none⟩)]] 96 (0, 0))
 x : qn w b o xs
structure vW (B : Nat) (w w' : World) : Prop where
 bel : Below B w w'
 same : ∀ c, c < w.heap.size → c ≠ B + 1 → c ≠ B + 2 → w'.heap[c]? = w.heap[c]?
theorem vW.trans {B : Nat} {a w w' : World} (h : vW B a w) (h' : vW B w w') : vW B a w' :=
 ⟨h.bel.trans h'.bel, fun c hc h1 h2 => (h'.same c (Nat.lt_of_lt_of_le hc h.bel.size) h1 h2).trans (h.same c hc h1 h2)⟩
theorem vW.alloc (B : Nat) (w : World) (hB : B ≤ w.heap.size) (ob : Obj) : vW B w (w.alloc ob) :=
 ⟨(Below.refl _ w).alloc hB ob, fun c hc _ _ => by
  show (w.heap.push ob)[c]? = _
  rw [Array.getElem?_push_lt hc]; simp [hc]⟩
theorem vW.setCell {B : Nat} {a w : World} (h : vW B a w) (q j : Nat) (hq : q = B + 1 ∨ q = B + 2) (v : Value) : vW B a (w.setCell ⟨q, j, none⟩ v) :=
 ⟨h.bel.setCell (p := ⟨q, j, none⟩) (by show B ≤ q; omega) v, fun c hc h1 h2 => (Below.heap_setCell w ⟨q, j, none⟩ v c (by show c ≠ q; omega)).trans (h.same c hc h1 h2)⟩
theorem NB.keep {B c : Nat} {w w' : World} {x : Nd} (h : NB w c x) (hk : vW B w w') (h1 : c ≠ B + 1) (h2 : c ≠ B + 2) : NB w' c x :=
 ⟨(hk.same c h.lt h1 h2).trans h.heap⟩
def Post (B b o n cap : Nat) (xs : List Nd) (w : World) : Option (Nat × (Nat → Bool)) → Ending → World → Prop
 | some s, e, w' => (e = .returned (.bool true) ∧ Env B b o n cap xs s.1 s.2 w') ∧ vW B w w'
 | none, e, w' => e = .returned (.bool false) ∧ vW B w w'
section
variable {B b o n cap : Nat} {xs : List Nd} {g : Nat} {en : Nat → Bool} {w : World}
theorem Env.size (h : Env B b o n cap xs g en w) : B + 4 ≤ w.heap.size := (Array.getElem?_eq_some_iff.1 h.f).1
theorem Env.alloc (h : Env B b o n cap xs g en w) (ob : Obj) : Env B b o n cap xs g en (w.alloc ob) := by
 have hs := h.size
 have k : ∀ (j : Nat), j < w.heap.size → (w.alloc ob).heap[j]? = w.heap[j]? := fun j hj => by
  show (w.heap.push ob)[j]? = _
  rw [Array.getElem?_push_lt hj]; simp [hj]
 have hB : Below w.heap.size w (w.alloc ob) := (Below.refl _ w).alloc (Nat.le_refl _) ob
 exact ⟨h.lt, (k _ (by omega)).trans h.l, (k _ (by omega)).trans h.g, (k _ (by omega)).trans h.en, (k _ (by omega)).trans h.f, h.x.below hB h.x.lt⟩
theorem Env.cl (h : Env B b o n cap xs g en w) : w.cell? ⟨B, 0, none⟩ = some (.slice (some ⟨b, o, none⟩) n cap) := by simp [World.cell?, h.l]
theorem Env.cg (h : Env B b o n cap xs g en w) : w.cell? ⟨B + 1, 0, none⟩ = some (.int .i64 g) := by simp [World.cell?, h.g]
theorem Env.zg (h : Env B b o n cap xs g en w) : w.frozen? ⟨B + 1, 0, none⟩ = false := by simp [World.frozen?, h.g]
theorem Env.cf (h : Env B b o n cap xs g en w) : w.cell? ⟨B + 3, 0, none⟩ = some (.func (.func 95) #[] #[.pointer (some ⟨B, 0, none⟩), .pointer (some ⟨B + 3, 0, none⟩), .pointer (some ⟨B + 1, 0, none⟩), .pointer (some ⟨B + 2, 0, none⟩)]) := by simp [World.cell?, h.f]
theorem Env.ce (h : Env B b o n cap xs g en w) (j : Nat) (hj : j < 10) : w.cell? ⟨B + 2, j, none⟩ = some (.bool (en j)) := by
 simp only [World.cell?, h.en]
 rcases (by omega : j = 0 ∨ j = 1 ∨ j = 2 ∨ j = 3 ∨ j = 4 ∨ j = 5 ∨ j = 6 ∨ j = 7 ∨ j = 8 ∨ j = 9) with rfl | rfl | rfl | rfl | rfl | rfl | rfl | rfl | rfl | rfl <;> rfl
theorem Env.ze (h : Env B b o n cap xs g en w) (j : Nat) : w.frozen? ⟨B + 2, j, none⟩ = false := by simp [World.frozen?, h.en]
theorem jM (w : World) (b j : Nat) (v : Value) (c : Nat) (h : c ≠ b) : (w.setCell ⟨b, j, none⟩ v).heap[c]? = w.heap[c]? := Below.heap_setCell w ⟨b, j, none⟩ v c h
theorem Env.setg (h : Env B b o n cap xs g en w) (g' : Nat) (v : Int) (hv : v = g') : Env B b o n cap xs g' en (w.setCell ⟨B + 1, 0, none⟩ (.int .i64 v)) := by
 subst hv
 have hB : Below B w (w.setCell ⟨B + 1, 0, none⟩ (.int .i64 g')) := (Below.refl _ w).setCell (p := ⟨B + 1, 0, none⟩) (by simp) _
 refine ⟨h.lt, (jM _ _ _ _ _ (by omega)).trans h.l, ?_, (jM _ _ _ _ _ (by omega)).trans h.en, (jM _ _ _ _ _ (by omega)).trans h.f, h.x.below hB h.lt⟩
 rw [heap_setCell_same _ _ _ _ _ _ h.g]; rfl
theorem Env.sete (h : Env B b o n cap xs g en w) (j : Nat) (hj : j < 10) : Env B b o n cap xs g (fun i => if i = j then true else en i) (w.setCell ⟨B + 2, j, none⟩ (.bool true)) := by
 have hB : Below B w (w.setCell ⟨B + 2, j, none⟩ (.bool true)) := (Below.refl _ w).setCell (p := ⟨B + 2, j, none⟩) (by simp) _
 refine ⟨h.lt, (jM _ _ _ _ _ (by omega)).trans h.l, (jM _ _ _ _ _ (by omega)).trans h.g, ?_, (jM _ _ _ _ _ (by omega)).trans h.f, h.x.below hB h.lt⟩
 rw [heap_setCell_same _ _ _ _ _ _ h.en]
 rcases (by omega : j = 0 ∨ j = 1 ∨ j = 2 ∨ j = 3 ∨ j = 4 ∨ j = 5 ∨ j = 6 ∨ j = 7 ∨ j = 8 ∨ j = 9) with rfl | rfl | rfl | rfl | rfl | rfl | rfl | rfl | rfl | rfl <;> rfl
end
theorem X4 {x : Nd} (h : qY x = true) (hk : x.kind = 8) : zR x.n = true ∧ x = ⟨8, 0, 0, 0, 0, 0, 0, 0, 0, x.n⟩ := by
 unfold qY at h
 rw [if_neg (by omega), if_neg (by omega), if_neg (by omega), if_neg (by omega), if_neg (by omega), if_pos hk, Bool.and_eq_true] at h
 exact ⟨h.1, of_decide_eq_true h.2⟩
theorem Zx {n : Int} (h : zR n = true) : 1 ≤ n ∧ n ≤ 9 := of_decide_eq_true h
def Qg (B b o0 n cap : Nat) (xs : List Nd) (t : T) : Prop := ∀ (o k g : Nat) (en : Nat → Bool) (w : World), T.At (fun i => xs[i]?) t o → o + t.size = k + 1 → k < n → g + t.size ≤ 1000 → Env B b o0 n cap xs g en w →
 Calls prog 95 #[.int .i64 (k : Int), .pointer (some ⟨B, 0, none⟩), .pointer (some ⟨B + 3, 0, none⟩), .pointer (some ⟨B + 1, 0, none⟩), .pointer (some ⟨B + 2, 0, none⟩)] w fun e w' => Post B b o0 n cap xs w (num t (g, en)) e w'
theorem UE (B b o0 n cap : Nat) (xs : List Nd) (qq : xs.length = n) (hn : n ≤ 120) (kd : Int) (w0 w1 w2 w3 : Nat) (xa xb m M xn : Int) (ho : T.Ok (.leaf ⟨kd, w0, w1, w2, w3, xa, xb, m, M, xn⟩)) : Qg B b o0 n cap xs (T.leaf ⟨kd, w0, w1, w2, w3, xa, xb, m, M, xn⟩) := by
 intro o k g en w ha he hk hg hw
 have hr := ha.root
 rw [show o + (T.leaf ⟨kd, w0, w1, w2, w3, xa, xb, m, M, xn⟩).size - 1 = k by omega] at hr
 have vT := ξ ha
 clear ha
 simp only [T.root] at hr
 have lw := hw.size
 have lb := hw.lt
 have cl := hw.cl; have cg := hw.cg; have zg := hw.zg; have cf := hw.cf
 have qu := hw.x.cell k _ hr
 have d_ := zB qu
 clear qu
 obtain ⟨Qp, ks⟩ := ho
 simp only at ks
 have bA : ∀ ob, vW B w (w.alloc ob) := fun ob => vW.alloc B w (by omega) ob
 rcases ks with rfl | rfl | rfl | rfl | rfl
 ·simp only [num, if_neg (by decide : ¬ ((0 : Int) = 8)), Post]
  have ev := hw.alloc (.cells #[.int .i64 0, .int .u64 w0, .int .u64 w1, .int .u64 w2, .int .u64 w3, .int .i64 xa, .int .i64 xb, .int .i64 m, .int .i64 M, .int .i64 xn] 57)
  have EV := ξ ev
  clear ev
  go_enter func95, ntmps95
  go_wp2
  go_ret
  exact ⟨⟨rfl, EV.out⟩, bA _⟩
 ·simp only [num, if_neg (by decide : ¬ ((1 : Int) = 8)), Post]
  have ev := hw.alloc (.cells #[.int .i64 1, .int .u64 w0, .int .u64 w1, .int .u64 w2, .int .u64 w3, .int .i64 xa, .int .i64 xb, .int .i64 m, .int .i64 M, .int .i64 xn] 57)
  have EV := ξ ev
  clear ev
  go_enter func95, ntmps95
  go_wp2
  go_ret
  exact ⟨⟨rfl, EV.out⟩, bA _⟩
 ·simp only [num, if_neg (by decide : ¬ ((2 : Int) = 8)), Post]
  have ev := hw.alloc (.cells #[.int .i64 2, .int .u64 w0, .int .u64 w1, .int .u64 w2, .int .u64 w3, .int .i64 xa, .int .i64 xb, .int .i64 m, .int .i64 M, .int .i64 xn] 57)
  have EV := ξ ev
  clear ev
  go_enter func95, ntmps95
  go_wp2
  go_ret
  exact ⟨⟨rfl, EV.out⟩, bA _⟩
 ·simp only [num, if_neg (by decide : ¬ ((3 : Int) = 8)), Post]
  have ev := hw.alloc (.cells #[.int .i64 3, .int .u64 w0, .int .u64 w1, .int .u64 w2, .int .u64 w3, .int .i64 xa, .int .i64 xb, .int .i64 m, .int .i64 M, .int .i64 xn] 57)
  have EV := ξ ev
  clear ev
  go_enter func95, ntmps95
  go_wp2
  go_ret
  exact ⟨⟨rfl, EV.out⟩, bA _⟩
 ·have hxn : 1 ≤ xn ∧ xn ≤ 9 := Zx (X4 Qp rfl).1
  obtain ⟨q, rfl⟩ : ∃ q : Nat, xn = q := ⟨xn.toNat, by omega⟩
  have hq : q < 10 := by omega
  have ce := qa (.cells #[.int .i64 8, .int .u64 w0, .int .u64 w1, .int .u64 w2, .int .u64 w3, .int .i64 xa, .int .i64 xb, .int .i64 m, .int .i64 M, .int .i64 q] 57) (hw.ce q hq)
  have ev := hw.alloc (.cells #[.int .i64 8, .int .u64 w0, .int .u64 w1, .int .u64 w2, .int .u64 w3, .int .i64 xa, .int .i64 xb, .int .i64 m, .int .i64 M, .int .i64 q] 57)
  have EV := ξ ev
  clear ev Qp
  cases hv : en q
  ·have hp : num (.leaf ⟨8, w0, w1, w2, w3, xa, xb, m, M, q⟩) (g, en) = none := by simp [num, hv]
   rw [hp]
   simp only [Post]
   rw [hv] at ce
   clear hp hv
   go_enter func95, ntmps95
   go_wp2
   go_ret
   exact ⟨rfl, bA _⟩
  ·have hp : num (.leaf ⟨8, w0, w1, w2, w3, xa, xb, m, M, q⟩) (g, en) = some (g, en) := by simp [num, hv]
   rw [hp]
   simp only [Post]
   rw [hv] at ce
   clear hp hv
   go_enter func95, ntmps95
   go_wp2
   go_ret
   exact ⟨⟨rfl, EV.out⟩, bA _⟩
theorem Wc (B b o0 n cap : Nat) (xs : List Nd) (qq : xs.length = n) (hn : n ≤ 120) (m M : Int) (t : T) (ih : Qg B b o0 n cap xs t) : Qg B b o0 n cap xs (T.times m M t) := by
 intro o k g en w ha he hk hg hw
 have hr := ha.root
 rw [show o + (T.times m M t).size - 1 = k by omega] at hr
 have vT := ξ ha
 clear ha
 simp only [T.root] at hr
 have lw := hw.size
 have lb := hw.lt
 have cl := hw.cl; have cg := hw.cg; have zg := hw.zg; have cf := hw.cf
 have qu := hw.x.cell k _ hr
 simp only [T.size] at he hg
 obtain ⟨p, rfl⟩ : ∃ p, k = p + 1 := ⟨k - 1, by have := t.size_pos; omega⟩
 have ea : (o : Int) + t.size - 1 = (p : Int) := by omega
 rw [ea] at qu
 have d_ := zB qu
 clear qu
 have bA : ∀ ob, vW B w (w.alloc ob) := fun ob => vW.alloc B w (by omega) ob
 have ev := hw.alloc (.cells #[.int .i64 6, .int .u64 0, .int .u64 0, .int .u64 0, .int .u64 0, .int .i64 p, .int .i64 0, .int .i64 m, .int .i64 M, .int .i64 0] 57)
 have cf1 := ev.cf
 have IH := ih o p g en _ vT.out.1 (by omega) (by omega) (by omega) ev
 clear ih vT hr ev
 have hp : num (T.times m M t) (g, en) = num t (g, en) := rfl
 rw [hp]
 clear hp
 generalize num t (g, en) = u at *
 have b1 := bA (.cells #[.int .i64 6, .int .u64 0, .int .u64 0, .int .u64 0, .int .u64 0, .int .i64 p, .int .i64 0, .int .i64 m, .int .i64 M, .int .i64 0] 57)
 cases u with
 | none =>
  simp only [Post] at IH ⊢
  have IH := ξ IH
  go_enter func95, ntmps95
  go_wp2_with (go_at_call 95; refine IH.out.mono ?_; rintro e w1 ⟨rfl, hB⟩)
  go_ret
  exact ⟨rfl, b1.trans hB⟩
 | some s =>
  simp only [Post] at IH ⊢
  have IH := ξ IH
  go_enter func95, ntmps95
  go_wp2_with (go_at_call 95; refine IH.out.mono ?_; rintro e w1 ⟨⟨rfl, hE⟩, hB⟩)
  go_ret
  exact ⟨⟨rfl, hE⟩, b1.trans hB⟩
theorem UF (B b o0 n cap : Nat) (xs : List Nd) (qq : xs.length = n) (hn : n ≤ 120) (s t : T) (is : Qg B b o0 n cap xs s) (it : Qg B b o0 n cap xs t) : Qg B b o0 n cap xs (T.two 4 s t) := by
 intro o k g en w ha he hk hg hw
 have hr := ha.root
 rw [show o + (T.two 4 s t).size - 1 = k by omega] at hr
 have vT := ξ ha
 clear ha
 simp only [T.root] at hr
 have lw := hw.size
 have lb := hw.lt
 have cl := hw.cl; have cg := hw.cg; have zg := hw.zg; have cf := hw.cf
 have qu := hw.x.cell k _ hr
 simp only [T.size] at he hg
 have sp := s.size_pos
 have tp := t.size_pos
 obtain ⟨q, rfl⟩ : ∃ q, k = q + 1 := ⟨k - 1, by omega⟩
 obtain ⟨p, hp⟩ : ∃ p, o + s.size = p + 1 := ⟨o + s.size - 1, by omega⟩
 have ea : (o : Int) + s.size - 1 = (p : Int) := by omega
 have eb : (o : Int) + s.size + t.size - 1 = (q : Int) := by omega
 rw [ea, eb] at qu
 have d_ := zB qu
 clear qu
 have bA : ∀ ob, vW B w (w.alloc ob) := fun ob => vW.alloc B w (by omega) ob
 have ev := hw.alloc (.cells #[.int .i64 4, .int .u64 0, .int .u64 0, .int .u64 0, .int .u64 0, .int .i64 p, .int .i64 q, .int .i64 0, .int .i64 0, .int .i64 0] 57)
 have cf1 := ev.cf
 have xl := w.heap.size
 have X1 := NB.new w ⟨4, 0, 0, 0, 0, p, q, 0, 0, 0⟩
 have IH := is o p g en _ vT.out.1 (by omega) (by omega) (by omega) ev
 have b1 := bA (.cells #[.int .i64 4, .int .u64 0, .int .u64 0, .int .u64 0, .int .u64 0, .int .i64 p, .int .i64 q, .int .i64 0, .int .i64 0, .int .i64 0] 57)
 have K9 : num (T.two 4 s t) (g, en) = (num s (g, en)).bind (num t) := rfl
 rw [K9]
 clear K9
 have ZM := Kz s (g, en)
 generalize num s (g, en) = u at *
 cases u with
 | none =>
  simp only [Post, Option.bind_none] at IH ⊢
  have IH := ξ IH
  clear is it vT hr ev ZM
  go_enter func95, ntmps95
  go_wp2_with (go_at_call 95; refine IH.out.mono ?_; rintro e w1 ⟨rfl, hB⟩)
  go_ret
  exact ⟨rfl, b1.trans hB⟩
 | some v =>
  obtain ⟨g1, en1⟩ := v
  have hg1 := ZM _ rfl
  simp only at hg1
  simp only [Post, Option.bind_some] at IH ⊢
  have IH := ξ IH
  have IT := ξ fun w1 (hE : Env B b o0 n cap xs g1 en1 w1) => it (o + s.size) q g1 en1 w1 vT.out.2.1 (by omega) (by omega) (by omega) hE
  clear is it vT hr ev ZM
  generalize hu2 : num t (g1, en1) = u2 at *
  go_enter func95, ntmps95
  go_wp2_with fail
  refine IH.out.mono ?_
  rintro e w1 ⟨⟨rfl, hE⟩, hB⟩
  have b2 := b1.trans hB
  have X2 := X1.keep hB (by omega) (by omega)
  have c6 : w1.cell? ⟨w.heap.size, 6, none⟩ = some (.int .i64 q) := X2.c 6
  have cf2 := hE.cf
  have I2 := IT.out w1 hE
  clear IT IH X1 X2 hB
  cases u2 with
  | none =>
   simp only [Post] at I2 ⊢
   have I2 := ξ I2
   go_wp2_with (go_at_call 95; refine I2.out.mono ?_; rintro e w2 ⟨rfl, hB⟩)
   go_ret
   exact ⟨rfl, b2.trans hB⟩
  | some v2 =>
   simp only [Post] at I2 ⊢
   have I2 := ξ I2
   go_wp2_with (go_at_call 95; refine I2.out.mono ?_; rintro e w2 ⟨⟨rfl, Qq⟩, hB⟩)
   go_ret
   exact ⟨⟨rfl, Qq⟩, b2.trans hB⟩
theorem UG (B b o0 n cap : Nat) (xs : List Nd) (qq : xs.length = n) (hn : n ≤ 120) (s t : T) (is : Qg B b o0 n cap xs s) (it : Qg B b o0 n cap xs t) : Qg B b o0 n cap xs (T.two 5 s t) := by
 intro o k g en w ha he hk hg hw
 have hr := ha.root
 rw [show o + (T.two 5 s t).size - 1 = k by omega] at hr
 have vT := ξ ha
 clear ha
 simp only [T.root] at hr
 have lw := hw.size
 have lb := hw.lt
 have cl := hw.cl; have cg := hw.cg; have zg := hw.zg; have cf := hw.cf
 have qu := hw.x.cell k _ hr
 simp only [T.size] at he hg
 have sp := s.size_pos
 have tp := t.size_pos
 obtain ⟨q, rfl⟩ : ∃ q, k = q + 1 := ⟨k - 1, by omega⟩
 obtain ⟨p, hp⟩ : ∃ p, o + s.size = p + 1 := ⟨o + s.size - 1, by omega⟩
 have ea : (o : Int) + s.size - 1 = (p : Int) := by omega
 have eb : (o : Int) + s.size + t.size - 1 = (q : Int) := by omega
 rw [ea, eb] at qu
 have d_ := zB qu
 clear qu
 have bA : ∀ ob, vW B w (w.alloc ob) := fun ob => vW.alloc B w (by omega) ob
 have ev := hw.alloc (.cells #[.int .i64 5, .int .u64 0, .int .u64 0, .int .u64 0, .int .u64 0, .int .i64 p, .int .i64 q, .int .i64 0, .int .i64 0, .int .i64 0] 57)
 have cf1 := ev.cf
 have xl := w.heap.size
 have X1 := NB.new w ⟨5, 0, 0, 0, 0, p, q, 0, 0, 0⟩
 have IH := is o p g en _ vT.out.1 (by omega) (by omega) (by omega) ev
 have b1 := bA (.cells #[.int .i64 5, .int .u64 0, .int .u64 0, .int .u64 0, .int .u64 0, .int .i64 p, .int .i64 q, .int .i64 0, .int .i64 0, .int .i64 0] 57)
 have K9 : num (T.two 5 s t) (g, en) = (num s (g, en)).bind (num t) := rfl
 rw [K9]
 clear K9
 have ZM := Kz s (g, en)
 generalize num s (g, en) = u at *
 cases u with
 | none =>
  simp only [Post, Option.bind_none] at IH ⊢
  have IH := ξ IH
  clear is it vT hr ev ZM
  go_enter func95, ntmps95
  go_wp2_with (go_at_call 95; refine IH.out.mono ?_; rintro e w1 ⟨rfl, hB⟩)
  go_ret
  exact ⟨rfl, b1.trans hB⟩
 | some v =>
  obtain ⟨g1, en1⟩ := v
  have hg1 := ZM _ rfl
  simp only at hg1
  simp only [Post, Option.bind_some] at IH ⊢
  have IH := ξ IH
  have IT := ξ fun w1 (hE : Env B b o0 n cap xs g1 en1 w1) => it (o + s.size) q g1 en1 w1 vT.out.2.1 (by omega) (by omega) (by omega) hE
  clear is it vT hr ev ZM
  generalize hu2 : num t (g1, en1) = u2 at *
  go_enter func95, ntmps95
  go_wp2_with fail
  refine IH.out.mono ?_
  rintro e w1 ⟨⟨rfl, hE⟩, hB⟩
  have b2 := b1.trans hB
  have X2 := X1.keep hB (by omega) (by omega)
  have c6 : w1.cell? ⟨w.heap.size, 6, none⟩ = some (.int .i64 q) := X2.c 6
  have cf2 := hE.cf
  have I2 := IT.out w1 hE
  clear IT IH X1 X2 hB
  cases u2 with
  | none =>
   simp only [Post] at I2 ⊢
   have I2 := ξ I2
   go_wp2_with (go_at_call 95; refine I2.out.mono ?_; rintro e w2 ⟨rfl, hB⟩)
   go_ret
   exact ⟨rfl, b2.trans hB⟩
  | some v2 =>
   simp only [Post] at I2 ⊢
   have I2 := ξ I2
   go_wp2_with (go_at_call 95; refine I2.out.mono ?_; rintro e w2 ⟨⟨rfl, Qq⟩, hB⟩)
   go_ret
   exact ⟨⟨rfl, Qq⟩, b2.trans hB⟩
theorem Wd (B b o0 n cap : Nat) (xs : List Nd) (qq : xs.length = n) (hn : n ≤ 120) (nn : Int) (hN : zR nn = true) (t : T) (ih : Qg B b o0 n cap xs t) : Qg B b o0 n cap xs (T.group nn t) := by
 intro o k g en w ha he hk hg hw
 have hr := ha.root
 rw [show o + (T.group nn t).size - 1 = k by omega] at hr
 have vT := ξ ha
 clear ha
 simp only [T.root] at hr
 have lw := hw.size
 have lb := hw.lt
 have cl := hw.cl; have cg := hw.cg; have zg := hw.zg; have cf := hw.cf
 have qu := hw.x.cell k _ hr
 have hN := Zx hN
 simp only [T.size] at he hg
 have tp := t.size_pos
 obtain ⟨p, rfl⟩ : ∃ p, k = p + 1 := ⟨k - 1, by omega⟩
 have ea : (o : Int) + t.size - 1 = (p : Int) := by omega
 rw [ea] at qu
 have IT := ξ fun w1 (hE : Env B b o0 n cap xs (g + 1) en w1) => ih o p (g + 1) en w1 vT.out.1 (by omega) (by omega) (by omega) hE
 have d_ := zB qu
 clear qu ih vT hr
 have kB : vW B w ((w.alloc (.cells #[.int .i64 7, .int .u64 0, .int .u64 0, .int .u64 0, .int .u64 0, .int .i64 p, .int .i64 0, .int .i64 0, .int .i64 0, .int .i64 nn] 57)).setCell ⟨B + 1, 0, none⟩ (.int .i64 ((g : Int) + 1))) := (vW.alloc B w (by omega) (.cells #[.int .i64 7, .int .u64 0, .int .u64 0, .int .u64 0, .int .u64 0, .int .i64 p, .int .i64 0, .int .i64 0, .int .i64 0, .int .i64 nn] 57)).setCell (B + 1) 0 (.inl rfl) _
 have cg1 := (hw.alloc (.cells #[.int .i64 7, .int .u64 0, .int .u64 0, .int .u64 0, .int .u64 0, .int .i64 p, .int .i64 0, .int .i64 0, .int .i64 0, .int .i64 nn] 57)).cg; have zg1 := (hw.alloc (.cells #[.int .i64 7, .int .u64 0, .int .u64 0, .int .u64 0, .int .u64 0, .int .i64 p, .int .i64 0, .int .i64 0, .int .i64 0, .int .i64 nn] 57)).zg
 by_cases e : nn = (g : Int) + 1
 ·subst e
  have z0 : ((g : Int) + 1 != (g : Int) + 1) = false := by simp
  have hj : ((g : Int) + 1).toNat = g + 1 := by omega
  have K9 : num (T.group ((g : Int) + 1) t) (g, en) = (num t (g + 1, en)).map fun u => (u.1, fun i => if i = g + 1 then true else u.2 i) := by simp only [num, if_true, hj]
  rw [K9]
  clear K9
  generalize hu : num t (g + 1, en) = u at *
  have VI := (hw.alloc (.cells #[.int .i64 7, .int .u64 0, .int .u64 0, .int .u64 0, .int .u64 0, .int .i64 p, .int .i64 0, .int .i64 0, .int .i64 0, .int .i64 ((g : Int) + 1)] 57)).setg (g + 1) ((g : Int) + 1) (by omega)
  have X1 : NB ((w.alloc (.cells #[.int .i64 7, .int .u64 0, .int .u64 0, .int .u64 0, .int .u64 0, .int .i64 p, .int .i64 0, .int .i64 0, .int .i64 0, .int .i64 ((g : Int) + 1)] 57)).setCell ⟨B + 1, 0, none⟩ (.int .i64 ((g : Int) + 1))) w.heap.size ⟨7, 0, 0, 0, 0, p, 0, 0, 0, (g : Int) + 1⟩ := ⟨(jM _ _ _ _ _ (by omega)).trans (NB.new w ⟨7, 0, 0, 0, 0, p, 0, 0, 0, (g : Int) + 1⟩).heap⟩
  have I1 := IT.out _ VI
  have cfe := VI.cf; have cge := VI.cg
  have x5 : _ = some (Value.int .i64 p) := X1.c 5
  clear IT
  cases u with
  | none =>
   simp only [Post, Option.map_none] at I1 ⊢
   have I1 := ξ I1
   go_enter func95, ntmps95
   go_wp2_with (go_at_call 95; refine I1.out.mono ?_; rintro e w1 ⟨rfl, hB⟩)
   go_ret
   exact ⟨rfl, kB.trans hB⟩
  | some v =>
   obtain ⟨g2, en2⟩ := v
   simp only [Post, Option.map_some] at I1 ⊢
   have I1 := ξ I1
   have KB := ξ kB
   clear kB
   go_enter func95, ntmps95
   go_wp2_with fail
   refine I1.out.mono ?_
   rintro e w1 ⟨⟨rfl, hE⟩, hB⟩
   have X2 := X1.keep hB (by omega) (by omega)
   have c9 : w1.cell? ⟨w.heap.size, 9, none⟩ = some (.int .i64 ((g : Int) + 1)) := X2.c 9
   have ce := hE.ce (g + 1) (by omega)
   have ze := hE.ze (g + 1)
   clear X1 I1 VI cfe cge x5 d_ cg1 zg1 cl cg zg cf
   go_wp2
   go_ret
   exact ⟨⟨rfl, hE.sete (g + 1) (by omega)⟩, (KB.out.trans hB).setCell (B + 2) (g + 1) (.inr rfl) _⟩
 ·have z0 : (nn != (g : Int) + 1) = true := by simpa using e
  have K9 : num (T.group nn t) (g, en) = none := by simp only [num, if_neg e]
  rw [K9]
  simp only [Post]
  go_enter func95, ntmps95
  go_wp2
  go_ret
  exact ⟨rfl, kB⟩
end Go.Proofs.YtjgegohidhdbpaaGreatDoor
