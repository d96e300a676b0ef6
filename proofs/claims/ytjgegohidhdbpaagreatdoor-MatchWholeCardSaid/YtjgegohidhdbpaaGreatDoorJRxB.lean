/- Patterns as trees: of no program. -/
import Derived.Test.YtjgegohidhdbpaaGreatDoorJRxA
open Go.Proofs.Tryz
set_option linter.unusedVariables false
set_option linter.unusedSimpArgs false
set_option maxRecDepth 100000
set_option maxHeartbeats 40000000
namespace Go.Proofs.YtjgegohidhdbpaaGreatDoor
inductive T where
 | leaf (x : Nd)
 | two (k : Int) (l r : T)
 | times (m M : Int) (t : T)
 | group (n : Int) (t : T)
namespace T
def size : T → Nat
 | leaf _ => 1
 | two _ l r => l.size + r.size + 1
 | times _ _ t => t.size + 1
 | group _ t => t.size + 1
theorem size_pos (t : T) : 0 < t.size := by cases t <;> simp [size]
def root : T → Nat → Nd
 | leaf x, _ => x
 | two k l r, o => ⟨k, 0, 0, 0, 0, (o : Int) + l.size - 1, (o : Int) + l.size + r.size - 1, 0, 0, 0⟩
 | times m M t, o => ⟨6, 0, 0, 0, 0, (o : Int) + t.size - 1, 0, m, M, 0⟩
 | group n t, o => ⟨7, 0, 0, 0, 0, (o : Int) + t.size - 1, 0, 0, 0, n⟩
def Ok : T → Prop
 | leaf x => qY x = true ∧ (x.kind = 0 ∨ x.kind = 1 ∨ x.kind = 2 ∨ x.kind = 3 ∨ x.kind = 8)
 | two k l r => (k = 4 ∨ k = 5) ∧ l.Ok ∧ r.Ok
 | times m M t => zr m M = true ∧ t.Ok
 | group n t => zR n = true ∧ t.Ok
def At (l : Nat → Option Nd) : T → Nat → Prop
 | leaf x, o => l o = some x
 | two k a b, o => At l a o ∧ At l b (o + a.size) ∧ l (o + a.size + b.size) = some (root (two k a b) o)
 | times m M t, o => At l t o ∧ l (o + t.size) = some (root (times m M t) o)
 | group n t, o => At l t o ∧ l (o + t.size) = some (root (group n t) o)
theorem At.root {l : Nat → Option Nd} {t : T} {o : Nat} (h : At l t o) : l (o + t.size - 1) = some (t.root o) := by
 cases t with
 | leaf x => exact h
 | two k a b => rw [show o + (two k a b).size - 1 = o + a.size + b.size by simp only [size]; omega]; exact h.2.2
 | times m M t => rw [show o + (times m M t).size - 1 = o + t.size by simp only [size]; omega]; exact h.2
 | group n t => rw [show o + (group n t).size - 1 = o + t.size by simp only [size]; omega]; exact h.2
theorem Ok.kind {t : T} (h : t.Ok) (o : Nat) : match t with
  | leaf _ => (t.root o).kind = 0 ∨ (t.root o).kind = 1 ∨ (t.root o).kind = 2 ∨ (t.root o).kind = 3 ∨ (t.root o).kind = 8
  | two _ _ _ => (t.root o).kind = 4 ∨ (t.root o).kind = 5
  | times _ _ _ => (t.root o).kind = 6
  | group _ _ => (t.root o).kind = 7 := by
 cases t with
 | leaf x => exact h.2
 | two k a b => exact h.1
 | times m M t => rfl
 | group n t => rfl
theorem uniq (l : Nat → Option Nd) : ∀ (t t' : T) (o o' : Nat), t.Ok → t'.Ok → At l t o → At l t' o' → o + t.size = o' + t'.size → t = t' ∧ o = o' := by
 intro t
 induction t with
 | leaf x =>
  intro t' o o' h h' a a' e
  have r := a.root; have r' := a'.root
  rw [e, r'] at r
  have k := h.kind o; have k' := h'.kind o'
  cases t' with
  | leaf x' =>
   simp [size] at e
   subst e
   simp [T.root] at r
   exact ⟨by rw [r], rfl⟩
  | two _ _ _ => rw [Option.some.inj r] at k'; simp at k k'; omega
  | times _ _ _ => rw [Option.some.inj r] at k'; simp at k k'; omega
  | group _ _ => rw [Option.some.inj r] at k'; simp at k k'; omega
 | two k0 x y ihx ihy =>
  intro t' o o' h h' a a' e
  have r := a.root; have r' := a'.root
  rw [e, r'] at r
  have k := h.kind o; have k' := h'.kind o'
  have r1 := Option.some.inj r
  cases t' with
  | leaf x' => rw [r1] at k'; simp at k k'; omega
  | two k1 x' y' =>
   simp [T.root] at r1
   simp [size] at e
   obtain ⟨e1, e2⟩ := ihx x' o o' h.2.1 h'.2.1 a.1 a'.1 (by omega)
   subst e1; subst e2
   obtain ⟨e1, _⟩ := ihy y' _ _ h.2.2 h'.2.2 a.2.1 a'.2.1 (by omega)
   subst e1
   exact ⟨by rw [r1.1], rfl⟩
  | times _ _ _ => rw [r1] at k'; simp at k k'; omega
  | group _ _ => rw [r1] at k'; simp at k k'; omega
 | times m M x ih =>
  intro t' o o' h h' a a' e
  have r := a.root; have r' := a'.root
  rw [e, r'] at r
  have k := h.kind o; have k' := h'.kind o'
  have r1 := Option.some.inj r
  cases t' with
  | leaf x' => rw [r1] at k'; simp at k k'; omega
  | two _ _ _ => rw [r1] at k'; simp at k k'; omega
  | times m' M' x' =>
   simp [T.root] at r1
   simp [size] at e
   obtain ⟨e1, e2⟩ := ih x' o o' h.2 h'.2 a.1 a'.1 (by omega)
   subst e1; subst e2
   exact ⟨by rw [r1.2.1, r1.2.2], rfl⟩
  | group _ _ => rw [r1] at k'; simp at k k'; omega
 | group n x ih =>
  intro t' o o' h h' a a' e
  have r := a.root; have r' := a'.root
  rw [e, r'] at r
  have k := h.kind o; have k' := h'.kind o'
  have r1 := Option.some.inj r
  cases t' with
  | leaf x' => rw [r1] at k'; simp at k k'; omega
  | two _ _ _ => rw [r1] at k'; simp at k k'; omega
  | times _ _ _ => rw [r1] at k'; simp at k k'; omega
  | group n' x' =>
   simp [T.root] at r1
   simp [size] at e
   obtain ⟨e1, e2⟩ := ih x' o o' h.2 h'.2 a.1 a'.1 (by omega)
   subst e1; subst e2
   exact ⟨by rw [r1.2], rfl⟩
def Ends (l : Nat → Option Nd) (b i : Nat) : Prop := ∃ t : T, t.Ok ∧ At l t b ∧ b + t.size = i + 1
theorem Ends.uniq {l : Nat → Option Nd} {b b' i : Nat} (h : Ends l b i) (h' : Ends l b' i) : b = b' := by
 obtain ⟨t, ho, ha, he⟩ := h
 obtain ⟨t', ho', ha', he'⟩ := h'
 exact (T.uniq l t t' b b' ho ho' ha ha' (by omega)).2
theorem Ends.le {l : Nat → Option Nd} {b i : Nat} (h : Ends l b i) : b ≤ i := by
 obtain ⟨t, ho, ha, he⟩ := h
 have := t.size_pos
 omega
theorem At.inner {l : Nat → Option Nd} : ∀ {t : T} {o : Nat}, t.Ok → At l t o → ∀ i, o ≤ i → i < o + t.size → ∃ b, Ends l b i
 | leaf x, o, h, a, i, h1, h2 => ⟨o, leaf x, h, a, by simp [size] at h2 ⊢; omega⟩
 | two k x y, o, h, a, i, h1, h2 => by
  simp only [size] at h2
  rcases Nat.lt_or_ge i (o + x.size) with c | c
  ·exact At.inner h.2.1 a.1 i h1 c
  ·rcases Nat.lt_or_ge i (o + x.size + y.size) with d | d
   ·exact At.inner h.2.2 a.2.1 i c d
   ·exact ⟨o, two k x y, h, a, by simp only [size]; omega⟩
 | times m M x, o, h, a, i, h1, h2 => by
  simp only [size] at h2
  rcases Nat.lt_or_ge i (o + x.size) with c | c
  ·exact At.inner h.2 a.1 i h1 c
  ·exact ⟨o, times m M x, h, a, by simp only [size]; omega⟩
 | group n x, o, h, a, i, h1, h2 => by
  simp only [size] at h2
  rcases Nat.lt_or_ge i (o + x.size) with c | c
  ·exact At.inner h.2 a.1 i h1 c
  ·exact ⟨o, group n x, h, a, by simp only [size]; omega⟩
end T
theorem qcF {x : Nd} (h : qY x = true) (hk : x.kind = 4 ∨ x.kind = 5) : x = ⟨x.kind, 0, 0, 0, 0, x.a, x.b, 0, 0, 0⟩ := by
 unfold qY at h
 rw [if_neg (by omega), if_neg (by omega), if_pos hk] at h
 exact of_decide_eq_true h
theorem UL {x : Nd} (h : qY x = true) (hk : x.kind = 6) : zr x.mn x.mx = true ∧ x = ⟨6, 0, 0, 0, 0, x.a, 0, x.mn, x.mx, 0⟩ := by
 unfold qY at h
 rw [if_neg (by omega), if_neg (by omega), if_neg (by omega), if_pos hk, Bool.and_eq_true] at h
 exact ⟨h.1, of_decide_eq_true h.2⟩
theorem UM {x : Nd} (h : qY x = true) (hk : x.kind = 7) : zR x.n = true ∧ x = ⟨7, 0, 0, 0, 0, x.a, 0, 0, 0, x.n⟩ := by
 unfold qY at h
 rw [if_neg (by omega), if_neg (by omega), if_neg (by omega), if_neg (by omega), if_pos hk, Bool.and_eq_true] at h
 exact ⟨h.1, of_decide_eq_true h.2⟩
theorem KC {x : Nd} (h : qY x = true) : x.kind = 0 ∨ x.kind = 1 ∨ x.kind = 2 ∨ x.kind = 3 ∨ x.kind = 4 ∨ x.kind = 5 ∨ x.kind = 6 ∨ x.kind = 7 ∨ x.kind = 8 := by
 by_cases h0 : x.kind = 0 ∨ x.kind = 2 ∨ x.kind = 3
 ·omega
 by_cases h1 : x.kind = 1
 ·omega
 by_cases h2 : x.kind = 4 ∨ x.kind = 5
 ·omega
 by_cases h3 : x.kind = 6
 ·omega
 by_cases h4 : x.kind = 7
 ·omega
 by_cases h5 : x.kind = 8
 ·omega
 unfold qY at h
 rw [if_neg h0, if_neg h1, if_neg h2, if_neg h3, if_neg h4, if_neg h5] at h
 cases h
namespace T
variable {l : Nat → Option Nd} {k : Nat} {x : Nd}
theorem ends_leaf (hx : l k = some x) (hn : qY x = true) (hk : x.kind = 0 ∨ x.kind = 1 ∨ x.kind = 2 ∨ x.kind = 3 ∨ x.kind = 8) : Ends l k k :=
 ⟨leaf x, ⟨hn, hk⟩, hx, rfl⟩
theorem ends_two (hx : l k = some x) (hn : qY x = true) (hk : x.kind = 4 ∨ x.kind = 5) {b : Nat} :
  Ends l b k ↔ ∃ c, 1 ≤ k ∧ x.b = (k : Int) - 1 ∧ Ends l c (k - 1) ∧ 1 ≤ c ∧ x.a = (c : Int) - 1 ∧ Ends l b (c - 1) := by
 constructor
 ·rintro ⟨t, ho, ha, he⟩
  have r := ha.root
  rw [show b + t.size - 1 = k by omega, hx] at r
  have kk := ho.kind b
  rw [← Option.some.inj r] at kk
  have r := Option.some.inj r
  cases t with
  | leaf y => simp at kk; omega
  | times m M t => simp at kk; omega
  | group n t => simp at kk; omega
  | two k0 p q =>
   simp only [size] at he
   have hp := p.size_pos
   have hq := q.size_pos
   refine ⟨b + p.size, by omega, by rw [r]; show (b : Int) + p.size + q.size - 1 = _; omega, ⟨q, ho.2.2, ha.2.1, by omega⟩, by omega, by rw [r]; show (b : Int) + p.size - 1 = _; omega, ⟨p, ho.2.1, ha.1, by omega⟩⟩
 ·rintro ⟨c, h1, hb, ⟨q, hq, aq, eq⟩, hc, hA, ⟨p, hp, ap, ep⟩⟩
  have e := qcF hn hk
  have ec : c = b + p.size := by omega
  subst ec
  refine ⟨two x.kind p q, ⟨hk, hp, hq⟩, ⟨ap, aq, ?_⟩, by simp only [size]; omega⟩
  rw [show b + p.size + q.size = k by omega, hx, e]
  simp only [root]
  congr 2
  rw [hb]; omega
theorem ends_times (hx : l k = some x) (hn : qY x = true) (hk : x.kind = 6) {b : Nat} :
  Ends l b k ↔ 1 ≤ k ∧ x.a = (k : Int) - 1 ∧ Ends l b (k - 1) := by
 constructor
 ·rintro ⟨t, ho, ha, he⟩
  have r := ha.root
  rw [show b + t.size - 1 = k by omega, hx] at r
  have kk := ho.kind b
  rw [← Option.some.inj r] at kk
  have r := Option.some.inj r
  cases t with
  | leaf y => simp at kk; omega
  | two _ _ _ => simp at kk; omega
  | group n t => simp at kk; omega
  | times m M p =>
   simp only [size] at he
   have hp := p.size_pos
   exact ⟨by omega, by rw [r]; show (b : Int) + p.size - 1 = _; omega, ⟨p, ho.2, ha.1, by omega⟩⟩
 ·rintro ⟨h1, hA, ⟨p, hp, ap, ep⟩⟩
  obtain ⟨hc, e⟩ := UL hn hk
  refine ⟨times x.mn x.mx p, ⟨hc, hp⟩, ⟨ap, ?_⟩, by simp only [size]; omega⟩
  rw [show b + p.size = k by omega, hx, e]
  simp only [root]
  congr 2
  rw [hA]; omega
theorem ends_group (hx : l k = some x) (hn : qY x = true) (hk : x.kind = 7) {b : Nat} :
  Ends l b k ↔ 1 ≤ k ∧ x.a = (k : Int) - 1 ∧ Ends l b (k - 1) := by
 constructor
 ·rintro ⟨t, ho, ha, he⟩
  have r := ha.root
  rw [show b + t.size - 1 = k by omega, hx] at r
  have kk := ho.kind b
  rw [← Option.some.inj r] at kk
  have r := Option.some.inj r
  cases t with
  | leaf y => simp at kk; omega
  | two _ _ _ => simp at kk; omega
  | times m M t => simp at kk; omega
  | group n p =>
   simp only [size] at he
   have hp := p.size_pos
   exact ⟨by omega, by rw [r]; show (b : Int) + p.size - 1 = _; omega, ⟨p, ho.2, ha.1, by omega⟩⟩
 ·rintro ⟨h1, hA, ⟨p, hp, ap, ep⟩⟩
  obtain ⟨hc, e⟩ := UM hn hk
  refine ⟨group x.n p, ⟨hc, hp⟩, ⟨ap, ?_⟩, by simp only [size]; omega⟩
  rw [show b + p.size = k by omega, hx, e]
  simp only [root]
  congr 2
  rw [hA]; omega
def Whole (l : Nat → Option Nd) (n : Nat) : Prop := Ends l 0 (n - 1)
theorem Whole.inner {n : Nat} (h : Whole l n) {i : Nat} (hi : i < n) : ∃ b, Ends l b i := by
 obtain ⟨t, ho, ha, he⟩ := h
 exact ha.inner ho i (by omega) (by omega)
end T
open Go.RowKit
theorem qh5 : Tryz.prog.keyTypeAt 2 55 = true := by kernel_rfl
theorem G4 (a b c d : Int) : (Value.agg #[.int .u64 a, .int .u64 b, .int .u64 c, .int .u64 d]).formed prog 55 = true := by
 simp [Value.formed, underlying55, JC]
theorem qg4 (a b c d : Nat) (h0 : a < 18446744073709551616) (h1 : b < 18446744073709551616) (h2 : c < 18446744073709551616) (h3 : d < 18446744073709551616) :
  Tryz.prog.keyLits 3 55 [.int .u64 a, .int .u64 b, .int .u64 c, .int .u64 d] = some [.int .u64 a, .int .u64 b, .int .u64 c, .int .u64 d] := by
 have h0 := wf_u64 h0; have h1 := wf_u64 h1; have h2 := wf_u64 h2; have h3 := wf_u64 h3
 simp [Program.keyLits, underlying53, underlying55, YZ, JC, h0, h1, h2, h3, show List.range 4 = [0, 1, 2, 3] from rfl]
theorem qcG (a b c d a' b' c' d' : Nat) (h0 : a < 18446744073709551616) (h1 : b < 18446744073709551616) (h2 : c < 18446744073709551616) (h3 : d < 18446744073709551616) (h0' : a' < 18446744073709551616) (h1' : b' < 18446744073709551616) (h2' : c' < 18446744073709551616) (h3' : d' < 18446744073709551616) (w : World) :
  (Op.equalIn 10000 55 (.agg #[.int .u64 a, .int .u64 b, .int .u64 c, .int .u64 d]) (.agg #[.int .u64 a', .int .u64 b', .int .u64 c', .int .u64 d'])).run prog w = .ok (decide (a = a' ∧ b = b' ∧ c = c' ∧ d = d')) w := by
 obtain ⟨r, hr, UI⟩ := run_equalIn_deep 9998 2 _ qh5 w 3 3 _ _ _ _ (G4 a b c d) (G4 a' b' c' d') (qg4 a b c d h0 h1 h2 h3) (qg4 a' b' c' d' h0' h1' h2' h3')
 rw [hr]
 congr 1
 rw [Bool.eq_iff_iff, UI, decide_eq_true_iff]
 simp
 omega
theorem qcH (k : Int) (w0 w1 w2 w3 : Nat) (a b m M n : Int) (hx : Nd.Fits ⟨k, w0, w1, w2, w3, a, b, m, M, n⟩) (w : World) :
  Calls prog 54 #[.agg #[.int .i64 k, .int .u64 w0, .int .u64 w1, .int .u64 w2, .int .u64 w3, .int .i64 a, .int .i64 b, .int .i64 m, .int .i64 M, .int .i64 n]] w fun e w' => e = .returned (.bool (qY ⟨k, w0, w1, w2, w3, a, b, m, M, n⟩)) ∧ Below w.heap.size w w' := by
 have fz : Nd.Fits ⟨k, 0, 0, 0, 0, 0, 0, 0, 0, 0⟩ := ⟨hx.k, (by decide : (0 : Nat) < 18446744073709551616), (by decide : (0 : Nat) < 18446744073709551616), (by decide : (0 : Nat) < 18446744073709551616), (by decide : (0 : Nat) < 18446744073709551616), (by decide : -9223372036854775808 ≤ (0 : Int) ∧ (0 : Int) ≤ 9223372036854775807), (by decide : -9223372036854775808 ≤ (0 : Int) ∧ (0 : Int) ≤ 9223372036854775807), (by decide : -9223372036854775808 ≤ (0 : Int) ∧ (0 : Int) ≤ 9223372036854775807), (by decide : -9223372036854775808 ≤ (0 : Int) ∧ (0 : Int) ≤ 9223372036854775807), (by decide : -9223372036854775808 ≤ (0 : Int) ∧ (0 : Int) ≤ 9223372036854775807)⟩
 obtain ⟨ez, hez⟩ : ∃ c, c = decide ((⟨k, w0, w1, w2, w3, a, b, m, M, n⟩ : Nd) = (⟨k, 0, 0, 0, 0, 0, 0, 0, 0, 0⟩ : Nd)) := ⟨_, rfl⟩
 have qz : ∀ w, (Op.equalIn 10000 57 (.agg #[.int .i64 k, .int .u64 w0, .int .u64 w1, .int .u64 w2, .int .u64 w3, .int .i64 a, .int .i64 b, .int .i64 m, .int .i64 M, .int .i64 n]) (.agg #[.int .i64 k, .int .u64 0, .int .u64 0, .int .u64 0, .int .u64 0, .int .i64 0, .int .i64 0, .int .i64 0, .int .i64 0, .int .i64 0])).run prog w = .ok ez w := fun w => by rw [hez]; exact V2 (⟨k, w0, w1, w2, w3, a, b, m, M, n⟩ : Nd) (⟨k, 0, 0, 0, 0, 0, 0, 0, 0, 0⟩ : Nd) hx fz w
 have f1 : Nd.Fits ⟨1, w0, w1, w2, w3, 0, 0, 0, 0, 0⟩ := ⟨(by decide : -9223372036854775808 ≤ (1 : Int) ∧ (1 : Int) ≤ 9223372036854775807), hx.s0, hx.s1, hx.s2, hx.s3, (by decide : -9223372036854775808 ≤ (0 : Int) ∧ (0 : Int) ≤ 9223372036854775807), (by decide : -9223372036854775808 ≤ (0 : Int) ∧ (0 : Int) ≤ 9223372036854775807), (by decide : -9223372036854775808 ≤ (0 : Int) ∧ (0 : Int) ≤ 9223372036854775807), (by decide : -9223372036854775808 ≤ (0 : Int) ∧ (0 : Int) ≤ 9223372036854775807), (by decide : -9223372036854775808 ≤ (0 : Int) ∧ (0 : Int) ≤ 9223372036854775807)⟩
 obtain ⟨e1, he1⟩ : ∃ c, c = decide ((⟨k, w0, w1, w2, w3, a, b, m, M, n⟩ : Nd) = (⟨1, w0, w1, w2, w3, 0, 0, 0, 0, 0⟩ : Nd)) := ⟨_, rfl⟩
 have q1 : ∀ w, (Op.equalIn 10000 57 (.agg #[.int .i64 k, .int .u64 w0, .int .u64 w1, .int .u64 w2, .int .u64 w3, .int .i64 a, .int .i64 b, .int .i64 m, .int .i64 M, .int .i64 n]) (.agg #[.int .i64 1, .int .u64 w0, .int .u64 w1, .int .u64 w2, .int .u64 w3, .int .i64 0, .int .i64 0, .int .i64 0, .int .i64 0, .int .i64 0])).run prog w = .ok e1 w := fun w => by rw [he1]; exact V2 (⟨k, w0, w1, w2, w3, a, b, m, M, n⟩ : Nd) (⟨1, w0, w1, w2, w3, 0, 0, 0, 0, 0⟩ : Nd) hx f1 w
 have f2 : Nd.Fits ⟨k, 0, 0, 0, 0, a, b, 0, 0, 0⟩ := ⟨hx.k, (by decide : (0 : Nat) < 18446744073709551616), (by decide : (0 : Nat) < 18446744073709551616), (by decide : (0 : Nat) < 18446744073709551616), (by decide : (0 : Nat) < 18446744073709551616), hx.a, hx.b, (by decide : -9223372036854775808 ≤ (0 : Int) ∧ (0 : Int) ≤ 9223372036854775807), (by decide : -9223372036854775808 ≤ (0 : Int) ∧ (0 : Int) ≤ 9223372036854775807), (by decide : -9223372036854775808 ≤ (0 : Int) ∧ (0 : Int) ≤ 9223372036854775807)⟩
 obtain ⟨e2, he2⟩ : ∃ c, c = decide ((⟨k, w0, w1, w2, w3, a, b, m, M, n⟩ : Nd) = (⟨k, 0, 0, 0, 0, a, b, 0, 0, 0⟩ : Nd)) := ⟨_, rfl⟩
 have q2 : ∀ w, (Op.equalIn 10000 57 (.agg #[.int .i64 k, .int .u64 w0, .int .u64 w1, .int .u64 w2, .int .u64 w3, .int .i64 a, .int .i64 b, .int .i64 m, .int .i64 M, .int .i64 n]) (.agg #[.int .i64 k, .int .u64 0, .int .u64 0, .int .u64 0, .int .u64 0, .int .i64 a, .int .i64 b, .int .i64 0, .int .i64 0, .int .i64 0])).run prog w = .ok e2 w := fun w => by rw [he2]; exact V2 (⟨k, w0, w1, w2, w3, a, b, m, M, n⟩ : Nd) (⟨k, 0, 0, 0, 0, a, b, 0, 0, 0⟩ : Nd) hx f2 w
 have f6 : Nd.Fits ⟨6, 0, 0, 0, 0, a, 0, m, M, 0⟩ := ⟨(by decide : -9223372036854775808 ≤ (6 : Int) ∧ (6 : Int) ≤ 9223372036854775807), (by decide : (0 : Nat) < 18446744073709551616), (by decide : (0 : Nat) < 18446744073709551616), (by decide : (0 : Nat) < 18446744073709551616), (by decide : (0 : Nat) < 18446744073709551616), hx.a, (by decide : -9223372036854775808 ≤ (0 : Int) ∧ (0 : Int) ≤ 9223372036854775807), hx.mn, hx.mx, (by decide : -9223372036854775808 ≤ (0 : Int) ∧ (0 : Int) ≤ 9223372036854775807)⟩
 obtain ⟨e6, he6⟩ : ∃ c, c = decide ((⟨k, w0, w1, w2, w3, a, b, m, M, n⟩ : Nd) = (⟨6, 0, 0, 0, 0, a, 0, m, M, 0⟩ : Nd)) := ⟨_, rfl⟩
 have q6 : ∀ w, (Op.equalIn 10000 57 (.agg #[.int .i64 k, .int .u64 w0, .int .u64 w1, .int .u64 w2, .int .u64 w3, .int .i64 a, .int .i64 b, .int .i64 m, .int .i64 M, .int .i64 n]) (.agg #[.int .i64 6, .int .u64 0, .int .u64 0, .int .u64 0, .int .u64 0, .int .i64 a, .int .i64 0, .int .i64 m, .int .i64 M, .int .i64 0])).run prog w = .ok e6 w := fun w => by rw [he6]; exact V2 (⟨k, w0, w1, w2, w3, a, b, m, M, n⟩ : Nd) (⟨6, 0, 0, 0, 0, a, 0, m, M, 0⟩ : Nd) hx f6 w
 have f7 : Nd.Fits ⟨7, 0, 0, 0, 0, a, 0, 0, 0, n⟩ := ⟨(by decide : -9223372036854775808 ≤ (7 : Int) ∧ (7 : Int) ≤ 9223372036854775807), (by decide : (0 : Nat) < 18446744073709551616), (by decide : (0 : Nat) < 18446744073709551616), (by decide : (0 : Nat) < 18446744073709551616), (by decide : (0 : Nat) < 18446744073709551616), hx.a, (by decide : -9223372036854775808 ≤ (0 : Int) ∧ (0 : Int) ≤ 9223372036854775807), (by decide : -9223372036854775808 ≤ (0 : Int) ∧ (0 : Int) ≤ 9223372036854775807), (by decide : -9223372036854775808 ≤ (0 : Int) ∧ (0 : Int) ≤ 9223372036854775807), hx.n⟩
 obtain ⟨e7, he7⟩ : ∃ c, c = decide ((⟨k, w0, w1, w2, w3, a, b, m, M, n⟩ : Nd) = (⟨7, 0, 0, 0, 0, a, 0, 0, 0, n⟩ : Nd)) := ⟨_, rfl⟩
 have q7 : ∀ w, (Op.equalIn 10000 57 (.agg #[.int .i64 k, .int .u64 w0, .int .u64 w1, .int .u64 w2, .int .u64 w3, .int .i64 a, .int .i64 b, .int .i64 m, .int .i64 M, .int .i64 n]) (.agg #[.int .i64 7, .int .u64 0, .int .u64 0, .int .u64 0, .int .u64 0, .int .i64 a, .int .i64 0, .int .i64 0, .int .i64 0, .int .i64 n])).run prog w = .ok e7 w := fun w => by rw [he7]; exact V2 (⟨k, w0, w1, w2, w3, a, b, m, M, n⟩ : Nd) (⟨7, 0, 0, 0, 0, a, 0, 0, 0, n⟩ : Nd) hx f7 w
 have f8 : Nd.Fits ⟨8, 0, 0, 0, 0, 0, 0, 0, 0, n⟩ := ⟨(by decide : -9223372036854775808 ≤ (8 : Int) ∧ (8 : Int) ≤ 9223372036854775807), (by decide : (0 : Nat) < 18446744073709551616), (by decide : (0 : Nat) < 18446744073709551616), (by decide : (0 : Nat) < 18446744073709551616), (by decide : (0 : Nat) < 18446744073709551616), (by decide : -9223372036854775808 ≤ (0 : Int) ∧ (0 : Int) ≤ 9223372036854775807), (by decide : -9223372036854775808 ≤ (0 : Int) ∧ (0 : Int) ≤ 9223372036854775807), (by decide : -9223372036854775808 ≤ (0 : Int) ∧ (0 : Int) ≤ 9223372036854775807), (by decide : -9223372036854775808 ≤ (0 : Int) ∧ (0 : Int) ≤ 9223372036854775807), hx.n⟩
 obtain ⟨e8, he8⟩ : ∃ c, c = decide ((⟨k, w0, w1, w2, w3, a, b, m, M, n⟩ : Nd) = (⟨8, 0, 0, 0, 0, 0, 0, 0, 0, n⟩ : Nd)) := ⟨_, rfl⟩
 have q8 : ∀ w, (Op.equalIn 10000 57 (.agg #[.int .i64 k, .int .u64 w0, .int .u64 w1, .int .u64 w2, .int .u64 w3, .int .i64 a, .int .i64 b, .int .i64 m, .int .i64 M, .int .i64 n]) (.agg #[.int .i64 8, .int .u64 0, .int .u64 0, .int .u64 0, .int .u64 0, .int .i64 0, .int .i64 0, .int .i64 0, .int .i64 0, .int .i64 n])).run prog w = .ok e8 w := fun w => by rw [he8]; exact V2 (⟨k, w0, w1, w2, w3, a, b, m, M, n⟩ : Nd) (⟨8, 0, 0, 0, 0, 0, 0, 0, 0, n⟩ : Nd) hx f8 w
 obtain ⟨es, hes⟩ : ∃ c, c = decide (w0 = 0 ∧ w1 = 0 ∧ w2 = 0 ∧ w3 = 0) := ⟨_, rfl⟩
 have qs : ∀ w, (Op.equalIn 10000 55 (.agg #[.int .u64 w0, .int .u64 w1, .int .u64 w2, .int .u64 w3]) (.agg #[.int .u64 0, .int .u64 0, .int .u64 0, .int .u64 0])).run prog w = .ok es w := fun w => by rw [hes]; exact qcG w0 w1 w2 w3 0 0 0 0 hx.s0 hx.s1 hx.s2 hx.s3 (by decide) (by decide) (by decide) (by decide) w
 obtain ⟨r, hr⟩ : ∃ r, r = qY ⟨k, w0, w1, w2, w3, a, b, m, M, n⟩ := ⟨_, rfl⟩
 rw [← hr]
 unfold qY at hr
 simp only at hr
 obtain ⟨cm, Vv⟩ : ∃ c, c = zr m M := ⟨_, rfl⟩
 obtain ⟨cn, XG⟩ : ∃ c, c = zR n := ⟨_, rfl⟩
 rw [← hez, ← he1, ← he2, ← he6, ← he7, ← he8, ← Vv, ← XG] at hr
 have C1 : ∀ w, Calls prog 93 #[.int .i64 m, .int .i64 M] w fun e w' => e = .returned (.bool cm) ∧ w' = w := fun w => by rw [Vv]; exact qaZ m M w
 have C2 : ∀ w, Calls prog 94 #[.int .i64 n] w fun e w' => e = .returned (.bool cn) ∧ w' = w := fun w => by rw [XG]; exact UJ n w
 rw [show decide (¬ (w0 = 0 ∧ w1 = 0 ∧ w2 = 0 ∧ w3 = 0)) = !es by rw [hes]; simp] at hr
 have H1 := ξ C1; have H2 := ξ C2
 clear hez he1 he2 he6 he7 he8 Vv XG hes C1 C2 fz f1 f2 f6 f7 f8
 have b0 : Below w.heap.size w (w.alloc (.cells #[.int .i64 k, .int .u64 w0, .int .u64 w1, .int .u64 w2, .int .u64 w3, .int .i64 a, .int .i64 b, .int .i64 m, .int .i64 M, .int .i64 n] 57)) := (Below.refl _ w).alloc (Nat.le_refl _) _
 by_cases h0 : k = 0
 ·subst h0
  have hr : r = ez := by rw [hr]; rfl
  rw [hr]; clear hr
  all_goals (
   go_enter func54, ntmps54
   go_wp2_with (first | (go_at_call 93; refine (H1.out _).mono ?_; rintro e w1 ⟨rfl, rfl⟩) | (go_at_call 94; refine (H2.out _).mono ?_; rintro e w1 ⟨rfl, rfl⟩))
   all_goals go_ret
   all_goals exact ⟨rfl, b0⟩)
 by_cases h1 : k = 1
 ·subst h1
  have hr : r = (!es && e1) := by rw [hr]; rfl
  rw [hr]; clear hr
  cases es <;> cases e1
  all_goals (
   go_enter func54, ntmps54
   go_wp2_with (first | (go_at_call 93; refine (H1.out _).mono ?_; rintro e w1 ⟨rfl, rfl⟩) | (go_at_call 94; refine (H2.out _).mono ?_; rintro e w1 ⟨rfl, rfl⟩))
   all_goals go_ret
   all_goals exact ⟨rfl, b0⟩)
 by_cases h2 : k = 2
 ·subst h2
  have hr : r = ez := by rw [hr]; rfl
  rw [hr]; clear hr
  all_goals (
   go_enter func54, ntmps54
   go_wp2_with (first | (go_at_call 93; refine (H1.out _).mono ?_; rintro e w1 ⟨rfl, rfl⟩) | (go_at_call 94; refine (H2.out _).mono ?_; rintro e w1 ⟨rfl, rfl⟩))
   all_goals go_ret
   all_goals exact ⟨rfl, b0⟩)
 by_cases h3 : k = 3
 ·subst h3
  have hr : r = ez := by rw [hr]; rfl
  rw [hr]; clear hr
  all_goals (
   go_enter func54, ntmps54
   go_wp2_with (first | (go_at_call 93; refine (H1.out _).mono ?_; rintro e w1 ⟨rfl, rfl⟩) | (go_at_call 94; refine (H2.out _).mono ?_; rintro e w1 ⟨rfl, rfl⟩))
   all_goals go_ret
   all_goals exact ⟨rfl, b0⟩)
 by_cases h4 : k = 4
 ·subst h4
  have hr : r = e2 := by rw [hr]; rfl
  rw [hr]; clear hr
  all_goals (
   go_enter func54, ntmps54
   go_wp2_with (first | (go_at_call 93; refine (H1.out _).mono ?_; rintro e w1 ⟨rfl, rfl⟩) | (go_at_call 94; refine (H2.out _).mono ?_; rintro e w1 ⟨rfl, rfl⟩))
   all_goals go_ret
   all_goals exact ⟨rfl, b0⟩)
 by_cases h5 : k = 5
 ·subst h5
  have hr : r = e2 := by rw [hr]; rfl
  rw [hr]; clear hr
  all_goals (
   go_enter func54, ntmps54
   go_wp2_with (first | (go_at_call 93; refine (H1.out _).mono ?_; rintro e w1 ⟨rfl, rfl⟩) | (go_at_call 94; refine (H2.out _).mono ?_; rintro e w1 ⟨rfl, rfl⟩))
   all_goals go_ret
   all_goals exact ⟨rfl, b0⟩)
 by_cases h6 : k = 6
 ·subst h6
  have hr : r = (cm && e6) := by rw [hr]; rfl
  rw [hr]; clear hr
  cases cm <;> cases e6
  all_goals (
   go_enter func54, ntmps54
   go_wp2_with (first | (go_at_call 93; refine (H1.out _).mono ?_; rintro e w1 ⟨rfl, rfl⟩) | (go_at_call 94; refine (H2.out _).mono ?_; rintro e w1 ⟨rfl, rfl⟩))
   all_goals go_ret
   all_goals exact ⟨rfl, b0⟩)
 by_cases h7 : k = 7
 ·subst h7
  have hr : r = (cn && e7) := by rw [hr]; rfl
  rw [hr]; clear hr
  cases cn <;> cases e7
  all_goals (
   go_enter func54, ntmps54
   go_wp2_with (first | (go_at_call 93; refine (H1.out _).mono ?_; rintro e w1 ⟨rfl, rfl⟩) | (go_at_call 94; refine (H2.out _).mono ?_; rintro e w1 ⟨rfl, rfl⟩))
   all_goals go_ret
   all_goals exact ⟨rfl, b0⟩)
 by_cases h8 : k = 8
 ·subst h8
  have hr : r = (cn && e8) := by rw [hr]; rfl
  rw [hr]; clear hr
  cases cn <;> cases e8
  all_goals (
   go_enter func54, ntmps54
   go_wp2_with (first | (go_at_call 93; refine (H1.out _).mono ?_; rintro e w1 ⟨rfl, rfl⟩) | (go_at_call 94; refine (H2.out _).mono ?_; rintro e w1 ⟨rfl, rfl⟩))
   all_goals go_ret
   all_goals exact ⟨rfl, b0⟩)
 have hr : r = false := by rw [hr]; simp [h0, h1, h2, h3, h4, h5, h6, h7, h8]
 rw [hr]; clear hr
 go_enter func54, ntmps54
 go_wp2_with (first | (go_at_call 93; refine (H1.out _).mono ?_; rintro e w1 ⟨rfl, rfl⟩) | (go_at_call 94; refine (H2.out _).mono ?_; rintro e w1 ⟨rfl, rfl⟩))
 all_goals go_ret
 all_goals exact ⟨rfl, b0⟩
end Go.Proofs.YtjgegohidhdbpaaGreatDoor
