/- Of no program: a text that is read from left to right; a list in brackets (P4.1). -/
import Derived.Test.YtdjcgjkbecncaaaGreatDoorJSetCn
import Derived.Shelf.Strings.Cut
import Derived.Test.YtdjcgjkbecncaaaGreatDoorJRxB
import Derived.Lib.IndexMore
set_option linter.unusedVariables false
set_option linter.unusedSimpArgs false
set_option maxRecDepth 100000
set_option maxHeartbeats 40000000
namespace Go.Proofs.YtdjcgjkbecncaaaGreatDoor
open Go.RowKit
def ah (s : List UInt8) (i : Nat) (h : List UInt8) : Bool := h.isPrefixOf (s.drop i)
theorem ah_one (s : List UInt8) (i : Nat) (c : UInt8) : ah s i [c] = (s[i]? == some c) := by
 unfold ah
 rw [Bool.eq_iff_iff, beq_iff_eq]
 cases h : s.drop i with
 | nil =>
  have : s.length ≤ i := by simpa using h
  rw [List.getElem?_eq_none this]
  simp
 | cons a r =>
  have h0 : (s.drop i)[0]? = some a := by rw [h]; rfl
  have h1 : s[i]? = some a := by simpa using h0
  rw [h1]
  simp [List.isPrefixOf]
  exact eq_comm
theorem ah_two (s : List UInt8) (i : Nat) (c d : UInt8) : ah s i [c, d] = (s[i]? == some c && s[i + 1]? == some d) := by
 unfold ah
 rw [Bool.eq_iff_iff, Bool.and_eq_true, beq_iff_eq, beq_iff_eq]
 cases h : s.drop i with
 | nil =>
  have : s.length ≤ i := by simpa using h
  rw [List.getElem?_eq_none this]
  simp
 | cons a r =>
  have h0 : (s.drop i)[0]? = some a := by rw [h]; rfl
  have h1 : s[i]? = some a := by simpa using h0
  have h2 : s[i + 1]? = r[0]? := by
   have : (s.drop i)[1]? = r[0]? := by rw [h]; rfl
   simpa using this
  rw [h1, h2]
  cases r with
  | nil => simp [List.isPrefixOf]
  | cons b r =>
   simp [List.isPrefixOf]
   constructor
   ·rintro ⟨rfl, rfl⟩; exact ⟨rfl, rfl⟩
   ·rintro ⟨rfl, rfl⟩; exact ⟨rfl, rfl⟩
theorem ah_le {s : List UInt8} {i : Nat} {h : List UInt8} (e : ah s i h = true) : i + h.length ≤ s.length ∨ h = [] := by
 unfold ah at e
 rw [List.isPrefixOf_iff_prefix] at e
 have := e.length_le
 rw [List.length_drop] at this
 by_cases h0 : h = []
 ·exact .inr h0
 ·have : 1 ≤ h.length := List.length_pos_iff.2 h0
  exact .inl (by omega)
def sk (s : List UInt8) (i : Nat) (h : List UInt8) : Nat := if ah s i h then i + h.length else i
theorem sk_le {s : List UInt8} {i : Nat} {h : List UInt8} (hi : i ≤ s.length) : sk s i h ≤ s.length := by
 unfold sk
 split
 ·rcases ah_le ‹_› with q | q
  ·exact q
  ·rw [q]; exact hi
 ·exact hi
def clsdP (s : List UInt8) (i : Nat) (e : List UInt8) : Option (UInt8 × Nat) :=
 match s[i]? with
 | none => none
 | some b => if ah s (i + 1) e then some (b, i + 1 + e.length) else none
def oneP (s : List UInt8) (i : Nat) : Option (UInt8 × Nat) :=
 if ah s i [91, 46] then clsdP s (i + 2) [46, 93] else
 if ah s i [92, 110] then some (10, i + 2) else
 if ah s i [91, 61] || ah s i [91, 58] then none else
 match s[i]? with
 | none => none
 | some b => some (b, i + 1)
def clasP (s : List UInt8) (i : Nat) : Option ((Nat → Bool) × Nat) :=
 let c := Lib.cut (s.drop i) [58, 93]
 let v := clsV c.1
 if !v.2 || !c.2.2 then none else some (v.1, i + (c.1.length + 2))
def tailP (s : List UInt8) (i : Nat) : Option ((Nat → Bool) × Nat) :=
 match oneP s i with
 | none => none
 | some (a, k) =>
  if ah s k [45, 93] || !ah s k [45] then some (rg a.toNat a.toNat, k) else
  match oneP s (k + 1) with
  | none => none
  | some (z, m) => if z.toNat < a.toNat then none else some (rg a.toNat z.toNat, m)
def partP (s : List UInt8) (i : Nat) (first : Bool) : Option ((Nat → Bool) × Nat) :=
 if ah s i [91, 58] then clasP s (i + 2) else
 if ah s i [91, 61] then (clsdP s (i + 2) [61, 93]).map fun p => (rg p.1.toNat p.1.toNat, p.2) else
 if ah s i [45] && !first && !ah s i [45, 93] then none else tailP s i
def restP (s : List UInt8) : Nat → Nat → (Nat → Bool) → Option ((Nat → Bool) × Nat)
 | 0, _, _ => none
 | f + 1, i, F => if ah s i [93] then some (F, i + 1) else
  match partP s i false with
  | none => none
  | some (G, k) => restP s f k (fun j => F j || G j)
def noneIn (F : Nat → Bool) : Bool := decide (wd F 0 = 0 ∧ wd F 1 = 0 ∧ wd F 2 = 0 ∧ wd F 3 = 0)
def brkP (s : List UInt8) : Option ((Nat → Bool) × Nat) :=
 if !ah s 0 [91] then none else
 match partP s (sk s 1 [94]) true with
 | none => none
 | some (G, k) =>
  match restP s (s.length + 1) k G with
  | none => none
  | some (F, m) =>
   let H := if ah s 1 [94] then (fun j => !F j) else F
   if noneIn H then none else some (H, m)
theorem clsdP_le {s : List UInt8} {i : Nat} {e : List UInt8} {p : UInt8 × Nat} (h : clsdP s i e = some p) (he : e ≠ []) : i + 2 ≤ p.2 ∧ p.2 ≤ s.length := by
 unfold clsdP at h
 split at h
 ·cases h
 ·split at h
  ·rename_i q
   have h1 := ah_le q
   have : 1 ≤ e.length := List.length_pos_iff.2 he
   cases h
   rcases h1 with h1 | h1
   ·exact ⟨by show i + 2 ≤ i + 1 + e.length; omega, h1⟩
   ·exact absurd h1 he
  ·cases h
theorem oneP_le {s : List UInt8} {i : Nat} {p : UInt8 × Nat} (h : oneP s i = some p) : i + 1 ≤ p.2 ∧ p.2 ≤ s.length := by
 unfold oneP at h
 split at h
 ·have := clsdP_le h (by simp)
  exact ⟨by omega, this.2⟩
 split at h
 ·rename_i q
  have h1 := ah_le q
  cases h
  rcases h1 with h1 | h1
  ·exact ⟨by show i + 1 ≤ i + 2; omega, h1⟩
  ·cases h1
 split at h
 ·cases h
 split at h
 ·cases h
 ·rename_i b q
  have := (List.getElem?_eq_some_iff.1 q).1
  cases h
  exact ⟨Nat.le_refl _, this⟩
end Go.Proofs.YtdjcgjkbecncaaaGreatDoor
namespace Go.Proofs.YtdjcgjkbecncaaaGreatDoor
open Go.RowKit
structure BRd where
 p : Nat
 l : List Nd
 g : Nat
 en : Nat → Bool
abbrev Er := Int × Nat
def BRd.put (r : BRd) (x : Nd) : BRd := { r with l := if r.l.length ≤ 120 then r.l ++ [x] else r.l }
def BRd.to (r : BRd) (i : Nat) : BRd := { r with p := i }
def byNd (F : Nat → Bool) : Nd := ⟨1, wd F 0, wd F 1, wd F 2, wd F 3, 0, 0, 0, 0, 0⟩
def kindNd (k : Int) : Nd := ⟨k, 0, 0, 0, 0, 0, 0, 0, 0, 0⟩
def isDig (b : UInt8) : Bool := decide (48 ≤ b.toNat) && decide (b.toNat ≤ 57)
def digsP (s : List UInt8) (i : Nat) : List UInt8 := ((s.drop i).take 3).takeWhile isDig
def valP (l : List UInt8) : Nat := l.foldl (fun n b => n * 10 + (b.toNat - 48)) 0
def numP (s : List UInt8) (i : Nat) : Int × Bool × Nat := ((valP (digsP s i) : Nat), !(digsP s i).isEmpty, i + (digsP s i).length)
def isTimesP (s : List UInt8) (i : Nat) : Bool := ah s i [42] || ah s i [92, 123]
def isCountP (a b : Int) : Bool := if 255 < a then false else decide (b = -1) || (decide (max a 1 ≤ b) && decide (b ≤ 255))
def timesP (s : List UInt8) (i : Nat) : Option (Int × Int × Nat) :=
 if ah s i [42] then some (0, -1, i + 1) else
 let a := numP s (sk s i [92, 123])
 let b := if ah s a.2.2 [44] then (if ah s (a.2.2 + 1) [92, 125] then ((-1 : Int), true, a.2.2 + 1) else numP s (a.2.2 + 1)) else a
 if !a.2.1 || !b.2.1 || !ah s b.2.2 [92, 125] || !isCountP a.1 b.1 then none else some (a.1, b.1, b.2.2 + 2)
def endsP (s : List UInt8) (i : Nat) : Bool := decide (i = s.length) || ah s i [92, 41]
def grpP (s : List UInt8) (row : BRd → Except Er (Bool × BRd)) (r : BRd) (at_ : Nat) : Except Er BRd :=
 if r.g = 9 then .error (41, at_) else
 match row { r with g := r.g + 1 } with
 | .error e => .error e
 | .ok (any, q) => if !any || !ah s q.p [92, 41] then .error (41, at_) else
  .ok (BRd.put { q with p := q.p + 2, en := fun k => if k = r.g + 1 then true else q.en k } ⟨7, 0, 0, 0, 0, (q.l.length : Int) - 1, 0, 0, 0, (r.g : Int) + 1⟩)
def escP (s : List UInt8) (row : BRd → Except Er (Bool × BRd)) (r : BRd) (at_ : Nat) : Except Er BRd :=
 match s[r.p]? with
 | none => .error (40, at_)
 | some b =>
  if b = 40 then grpP s row (r.to (r.p + 1)) at_ else
  if decide (49 ≤ b.toNat) && decide (b.toNat ≤ 57) then (if !r.en (b.toNat - 48) then .error (44, at_) else .ok ((r.to (r.p + 1)).put ⟨8, 0, 0, 0, 0, 0, 0, 0, 0, (b.toNat : Int) - 48⟩)) else
  if b = 110 then .ok ((r.to (r.p + 1)).put (byNd (rg 10 10))) else
  if b = 47 ∨ b ∈ ([46, 91, 92, 42, 94, 36] : List UInt8) then .ok ((r.to (r.p + 1)).put (byNd (rg b.toNat b.toNat))) else
  if b = 123 then .error (43, at_) else .error (40, at_)
def behP (s : List UInt8) (r : BRd) : Except Er (Int × BRd) :=
 if !isTimesP s r.p then .ok ((r.l.length : Int) - 1, r) else
 match timesP s r.p with
 | none => .error (43, r.p)
 | some (a, b, k) => if isTimesP s k then .error (43, k) else
  let q := (r.to k).put ⟨6, 0, 0, 0, 0, (r.l.length : Int) - 1, 0, a, b, 0⟩
  .ok ((q.l.length : Int) - 1, q)
def itemP (s : List UInt8) (row : BRd → Except Er (Bool × BRd)) (r : BRd) : Except Er (Int × BRd) :=
 match s[r.p]? with
 | none => .error (0, 0)
 | some b =>
  if b = 46 then behP s ((r.to (r.p + 1)).put (byNd fun _ => true)) else
  if b = 91 then (match brkP (s.drop r.p) with
   | none => .error (42, r.p)
   | some (F, n) => behP s ((r.to (r.p + n)).put (byNd F))) else
  if b = 92 then (match escP s row (r.to (r.p + 1)) r.p with
   | .error e => .error e
   | .ok q => behP s q) else
  if b = 36 ∧ endsP s (r.p + 1) then
   let q := (r.to (r.p + 1)).put (kindNd 3)
   .ok ((q.l.length : Int) - 1, q)
  else behP s ((r.to (r.p + 1)).put (byNd (rg b.toNat b.toNat)))
def itemsP (s : List UInt8) (row : BRd → Except Er (Bool × BRd)) : Nat → BRd → List Int → Except Er (List Int × BRd)
 | 0, _, _ => .error (0, 0)
 | f + 1, r, ps => if endsP s r.p then .ok (ps, r) else
  match itemP s row r with
  | .error e => .error e
  | .ok (i, q) => itemsP s row f q (ps ++ [i])
def catsP : List Int → BRd → Int → BRd
 | [], r, _ => r
 | a :: tl, r, b =>
  let q := r.put ⟨4, 0, 0, 0, 0, a, b, 0, 0, 0⟩
  catsP tl q ((q.l.length : Int) - 1)
def rowP (s : List UInt8) : Nat → BRd → Except Er (Bool × BRd)
 | 0, _ => .error (0, 0)
 | f + 1, r =>
  let r1 := if ah s r.p [94] then (r.to (r.p + 1)).put (kindNd 2) else r
  let p1 : List Int := if ah s r.p [94] then [(r1.l.length : Int) - 1] else []
  match itemsP s (rowP s f) (s.length + 1) r1 p1 with
  | .error e => .error e
  | .ok (ps, q) =>
   match ps.reverse with
   | [] => .ok (false, q)
   | b :: tl => .ok (true, catsP tl q b)
def wholeP (s : List UInt8) : Except Er BRd :=
 let r0 : BRd := ⟨0, [], 0, fun _ => false⟩
 if s = [] then .ok (r0.put (kindNd 0)) else
 match rowP s 10 r0 with
 | .error e => .error e
 | .ok (_, q) => if q.p ≠ s.length then .error (41, q.p) else if 120 < q.l.length then .error (2, 0) else .ok q
end Go.Proofs.YtdjcgjkbecncaaaGreatDoor
namespace Go.Proofs.YtdjcgjkbecncaaaGreatDoor
open Go.RowKit
theorem clasP_le {s : List UInt8} {i : Nat} {p : (Nat → Bool) × Nat} (h : clasP s i = some p) (hi : i ≤ s.length) : i < p.2 ∧ p.2 ≤ s.length := by
 unfold clasP at h
 simp only at h
 split at h
 ·cases h
 ·rename_i q
  simp only [Bool.or_eq_true, Bool.not_eq_true', not_or, Bool.not_eq_false] at q
  have hc := q.2
  cases h
  unfold Lib.cut at hc ⊢
  split at hc
  ·rename_i h0
   rw [if_pos h0]
   have := Lib.index_room _ _ h0
   have hl := Lib.index_le (s.drop i) [58, 93]
   simp only [List.length_take, List.length_drop, List.length_cons, List.length_nil] at *
   refine ⟨by show i < i + (_ + 2); omega, ?_⟩
   show i + (_ + 2) ≤ s.length
   omega
  ·cases hc
theorem partP_le {s : List UInt8} {i : Nat} {first : Bool} {p : (Nat → Bool) × Nat} (h : partP s i first = some p) : i < p.2 ∧ p.2 ≤ s.length := by
 unfold partP at h
 split at h
 ·rename_i q
  rcases ah_le q with q | q
  ·have := clasP_le h q
   exact ⟨by omega, this.2⟩
  ·cases q
 split at h
 ·rw [Option.map_eq_some_iff] at h
  obtain ⟨a, ha, rfl⟩ := h
  have := clsdP_le ha (by simp)
  exact ⟨by show i < a.2; omega, this.2⟩
 split at h
 ·cases h
 unfold tailP at h
 split at h
 ·cases h
 ·rename_i a k hk
  have h1 := oneP_le hk
  simp only at h1
  split at h
  ·cases h; exact ⟨by show i < k; omega, h1.2⟩
  ·split at h
   ·cases h
   ·rename_i z m hm
    have h2 := oneP_le hm
    simp only at h2
    split at h
    ·cases h
    ·cases h; exact ⟨by show i < m; omega, h2.2⟩
theorem restP_le {s : List UInt8} : ∀ (f i : Nat) (F : Nat → Bool) {p : (Nat → Bool) × Nat}, restP s f i F = some p → i < p.2 ∧ p.2 ≤ s.length
 | 0, i, F, p, h => by cases h
 | f + 1, i, F, p, h => by
  rw [restP] at h
  split at h
  ·rename_i q
   cases h
   rcases ah_le q with q | q
   ·exact ⟨Nat.lt_succ_self i, q⟩
   ·cases q
  split at h
  ·cases h
  ·rename_i G k hk
   have h1 := partP_le hk
   have h2 := restP_le f k _ h
   simp only at h1
   exact ⟨by omega, h2.2⟩
theorem brkP_le {s : List UInt8} {p : (Nat → Bool) × Nat} (h : brkP s = some p) : 1 < p.2 ∧ p.2 ≤ s.length := by
 unfold brkP at h
 by_cases h0 : (!ah s 0 [91]) = true
 ·rw [if_pos h0] at h; cases h
 rw [if_neg h0] at h
 cases hk : partP s (sk s 1 [94]) true with
 | none => rw [hk] at h; cases h
 | some a =>
  obtain ⟨G, k⟩ := a
  rw [hk] at h
  simp only at h
  have h1 := partP_le hk
  simp only at h1
  cases hm : restP s (s.length + 1) k G with
  | none => rw [hm] at h; cases h
  | some b =>
   obtain ⟨F, m⟩ := b
   rw [hm] at h
   simp only at h
   have h2 := restP_le _ _ _ hm
   simp only at h2
   generalize (if ah s 1 [94] = true then (fun j => !F j) else F) = H at h
   by_cases hz : noneIn H = true
   ·rw [if_pos hz] at h; cases h
   ·rw [if_neg hz] at h
    cases h
    exact ⟨by show 1 < m; omega, h2.2⟩
theorem digsP_len (s : List UInt8) (i : Nat) : (digsP s i).length ≤ 3 ∧ (digsP s i).length ≤ s.length - i := by
 unfold digsP
 have h := (List.takeWhile_prefix (p := isDig) (l := (s.drop i).take 3)).length_le
 simp only [List.length_take, List.length_drop] at h
 omega
theorem numP_le (s : List UInt8) (i : Nat) (hi : i ≤ s.length) : i ≤ (numP s i).2.2 ∧ (numP s i).2.2 ≤ s.length := by
 have := digsP_len s i
 exact ⟨Nat.le_add_right _ _, by show i + _ ≤ _; omega⟩
theorem timesP_le {s : List UInt8} {i : Nat} {p : Int × Int × Nat} (hi : i ≤ s.length) (h : timesP s i = some p) : i < p.2.2 ∧ p.2.2 ≤ s.length := by
 unfold timesP at h
 split at h
 ·rename_i q
  cases h
  rcases ah_le q with q | q
  ·exact ⟨Nat.lt_succ_self i, q⟩
  ·cases q
 ·simp only at h
  have hk : i ≤ sk s i [92, 123] := by unfold sk; split <;> omega
  have h1 := numP_le s _ (sk_le (h := [92, 123]) hi)
  generalize numP s (sk s i [92, 123]) = a at h h1
  have h2 : ∀ b, b = (if ah s a.2.2 [44] then (if ah s (a.2.2 + 1) [92, 125] then ((-1 : Int), true, a.2.2 + 1) else numP s (a.2.2 + 1)) else a) → a.2.2 ≤ b.2.2 ∧ b.2.2 ≤ s.length := by
   rintro b rfl
   split
   ·rename_i q
    have q1 : a.2.2 + 1 ≤ s.length := by
     rcases ah_le q with q | q
     ·exact q
     ·cases q
    split
    ·exact ⟨Nat.le_succ _, q1⟩
    ·have := numP_le s _ q1
     exact ⟨by omega, this.2⟩
   ·exact ⟨Nat.le_refl _, h1.2⟩
  have h3 := h2 _ rfl
  generalize (if ah s a.2.2 [44] then (if ah s (a.2.2 + 1) [92, 125] then ((-1 : Int), true, a.2.2 + 1) else numP s (a.2.2 + 1)) else a) = b at h h3
  split at h
  ·cases h
  ·rename_i q
   simp only [Bool.or_eq_true, Bool.not_eq_true', not_or, Bool.not_eq_false] at q
   have := ah_le q.1.2
   cases h
   rcases this with r | r
   ·exact ⟨by show i < b.2.2 + 2; omega, r⟩
   ·cases r
theorem put_pos (r : BRd) (x : Nd) : 1 ≤ (r.put x).l.length := by
 unfold BRd.put
 show 1 ≤ (if r.l.length ≤ 120 then r.l ++ [x] else r.l).length
 split
 ·simp
 ·omega
theorem put_le (r : BRd) (x : Nd) (h : r.l.length ≤ 121) : (r.put x).l.length ≤ 121 := by
 unfold BRd.put
 show (if r.l.length ≤ 120 then r.l ++ [x] else r.l).length ≤ 121
 split
 ·simp; omega
 ·exact h
def ErOk (s : List UInt8) (e : Er) : Prop := e.2 ≤ s.length ∧ (40 ≤ e.1 ∧ e.1 ≤ 44 ∨ e.1 = 2)
theorem erOk {s : List UInt8} {z : Int} {a : Nat} (ha : a ≤ s.length) (h : 40 ≤ z ∧ z ≤ 44 ∨ z = 2) : ErOk s (z, a) := ⟨ha, h⟩
structure RowOk (s : List UInt8) (g : Nat) (row : BRd → Except Er (Bool × BRd)) : Prop where
 er : ∀ r, r.p ≤ s.length → r.l.length ≤ 121 → r.g = g → ∀ e, row r = .error e → ErOk s e
 ok : ∀ r, r.p ≤ s.length → r.l.length ≤ 121 → r.g = g → ∀ b q, row r = .ok (b, q) → r.p ≤ q.p ∧ q.p ≤ s.length ∧ q.l.length ≤ 121 ∧ g ≤ q.g ∧ q.g ≤ 9 ∧ (b = true → 1 ≤ q.l.length)
structure BGoes (s : List UInt8) (g p : Nat) (q : BRd) : Prop where
 p : p < q.p
 e : q.p ≤ s.length
 l1 : 1 ≤ q.l.length
 l : q.l.length ≤ 121
 g : g ≤ q.g
 g9 : q.g ≤ 9
theorem grpP_goes {s : List UInt8} {row : BRd → Except Er (Bool × BRd)} {r : BRd} {a : Nat} (ha : a ≤ s.length) (hp : r.p ≤ s.length) (hl : r.l.length ≤ 121) (hg : r.g ≤ 9) (hrow : r.g < 9 → RowOk s (r.g + 1) row) :
  (∀ e, grpP s row r a = .error e → ErOk s e) ∧ (∀ q, grpP s row r a = .ok q → BGoes s r.g r.p q) := by
 unfold grpP
 split
 ·exact ⟨fun e h => by cases h; exact erOk (ha) (by decide), fun q h => by cases h⟩
 ·rename_i hne
  have R := hrow (by omega)
  split
  ·rename_i e he
   exact ⟨fun e' h => by cases h; exact R.er { r with g := r.g + 1 } hp hl rfl e he, fun q h => by cases h⟩
  ·rename_i any q hq
   have O := R.ok { r with g := r.g + 1 } hp hl rfl any q hq
   simp only at O
   split
   ·exact ⟨fun e h => by cases h; exact erOk (ha) (by decide), fun q h => by cases h⟩
   ·rename_i hh
    simp only [Bool.or_eq_true, Bool.not_eq_true', not_or, Bool.not_eq_false] at hh
    have := ah_le hh.2
    refine ⟨fun e h => by (cases h), fun q' h => ?_⟩
    cases h
    refine ⟨?_, ?_, put_pos _ _, put_le _ _ O.2.2.1, ?_, ?_⟩
    ·show r.p < q.p + 2; omega
    ·show q.p + 2 ≤ s.length
     rcases this with t | t
     ·exact t
     ·cases t
    ·show r.g ≤ q.g; omega
    ·show q.g ≤ 9; omega
theorem escP_goes {s : List UInt8} {row : BRd → Except Er (Bool × BRd)} {r : BRd} {a : Nat} (ha : a ≤ s.length) (hp : r.p ≤ s.length) (hl : r.l.length ≤ 121) (hg : r.g ≤ 9) (hrow : r.g < 9 → RowOk s (r.g + 1) row) :
  (∀ e, escP s row r a = .error e → ErOk s e) ∧ (∀ q, escP s row r a = .ok q → BGoes s r.g r.p q) := by
 unfold escP
 split
 ·exact ⟨fun e h => by cases h; exact erOk (ha) (by decide), fun q h => by cases h⟩
 ·rename_i b hb
  have hlt := (List.getElem?_eq_some_iff.1 hb).1
  have base : ∀ x q, Except.ok (ε := Er) ((r.to (r.p + 1)).put x) = .ok q → BGoes s r.g r.p q := fun x q h => by
   cases h
   exact ⟨Nat.lt_succ_self _, hlt, put_pos _ _, put_le _ _ hl, Nat.le_refl _, hg⟩
  have bad : ∀ (z : Int), 40 ≤ z ∧ z ≤ 44 → ∀ e, Except.error (α := BRd) (z, a) = .error e → ErOk s e := fun z hz e h => by cases h; exact ⟨ha, .inl hz⟩
  split
  ·have := grpP_goes (r := r.to (r.p + 1)) (a := a) ha hlt hl hg hrow
   exact ⟨this.1, fun q h => by
    have g := this.2 q h
    exact ⟨Nat.lt_trans (Nat.lt_succ_self _) g.p, g.e, g.l1, g.l, g.g, g.g9⟩⟩
  split
  ·split
   ·exact ⟨bad 44 (by decide), fun q h => by cases h⟩
   ·exact ⟨fun e h => by (cases h), base _⟩
  split
  ·exact ⟨fun e h => by (cases h), base _⟩
  split
  ·exact ⟨fun e h => by (cases h), base _⟩
  split
  ·exact ⟨bad 43 (by decide), fun q h => by cases h⟩
  ·exact ⟨bad 40 (by decide), fun q h => by cases h⟩
theorem behP_goes {s : List UInt8} {r : BRd} (hp : r.p ≤ s.length) (hl : r.l.length ≤ 121) (h1 : 1 ≤ r.l.length) (hg : r.g ≤ 9) :
  (∀ e, behP s r = .error e → ErOk s e) ∧ (∀ i q, behP s r = .ok (i, q) → r.p ≤ q.p ∧ q.p ≤ s.length ∧ 1 ≤ q.l.length ∧ q.l.length ≤ 121 ∧ q.g = r.g) := by
 unfold behP
 split
 ·exact ⟨fun e h => by (cases h), fun i q h => by cases h; exact ⟨Nat.le_refl _, hp, h1, hl, rfl⟩⟩
 split
 ·exact ⟨fun e h => by cases h; exact erOk (hp) (by decide), fun i q h => by cases h⟩
 ·rename_i a b k hk
  have h2 := timesP_le hp hk
  simp only at h2
  split
  ·exact ⟨fun e h => by cases h; exact erOk (h2.2) (by decide), fun i q h => by cases h⟩
  ·exact ⟨fun e h => by (cases h), fun i q h => by
    cases h
    exact ⟨by show r.p ≤ k; omega, h2.2, put_pos _ _, put_le _ _ hl, rfl⟩⟩
theorem itemP_goes {s : List UInt8} {row : BRd → Except Er (Bool × BRd)} {r : BRd} (hp : r.p < s.length) (hl : r.l.length ≤ 121) (hg : r.g ≤ 9) (hrow : ∀ q : BRd, q.g = r.g → q.g < 9 → RowOk s (q.g + 1) row) :
  (∀ e, itemP s row r = .error e → ErOk s e) ∧ (∀ i q, itemP s row r = .ok (i, q) → BGoes s r.g r.p q) := by
 obtain ⟨b, hb⟩ : ∃ b, s[r.p]? = some b := ⟨_, List.getElem?_eq_getElem hp⟩
 have beh : ∀ q : BRd, r.p < q.p → q.p ≤ s.length → 1 ≤ q.l.length → q.l.length ≤ 121 → r.g ≤ q.g → q.g ≤ 9 → (∀ e, behP s q = .error e → ErOk s e) ∧ (∀ i q', behP s q = .ok (i, q') → BGoes s r.g r.p q') := fun q h1 h2 h3 h4 h5 h6 => by
  have := behP_goes h2 h4 h3 h6
  exact ⟨this.1, fun i q' h => by
   have g := this.2 i q' h
   exact ⟨by omega, g.2.1, g.2.2.1, g.2.2.2.1, by omega, by omega⟩⟩
 unfold itemP
 rw [hb]
 simp only
 split
 ·exact beh _ (Nat.lt_succ_self _) hp (put_pos _ _) (put_le _ _ hl) (Nat.le_refl _) hg
 split
 ·split
  ·exact ⟨fun e h => by cases h; exact erOk (Nat.le_of_lt hp) (by decide), fun i q h => by cases h⟩
  ·rename_i F n hn
   have h2 := brkP_le hn
   simp only [List.length_drop] at h2
   exact beh _ (by show r.p < r.p + n; omega) (by show r.p + n ≤ _; omega) (put_pos _ _) (put_le _ _ hl) (Nat.le_refl _) hg
 split
 ·have E := escP_goes (row := row) (r := r.to (r.p + 1)) (a := r.p) (Nat.le_of_lt hp) hp hl hg (fun h => hrow r rfl h)
  split
  ·rename_i e he
   exact ⟨fun e' h => by cases h; exact E.1 _ he, fun i q h => by cases h⟩
  ·rename_i q hq
   have g := E.2 q hq
   exact beh q (Nat.lt_trans (Nat.lt_succ_self _) g.p) g.e g.l1 g.l g.g g.g9
 split
 ·exact ⟨fun e h => by (cases h), fun i q h => by
   cases h
   exact ⟨Nat.lt_succ_self _, hp, put_pos _ _, put_le _ _ hl, Nat.le_refl _, hg⟩⟩
 ·exact beh _ (Nat.lt_succ_self _) hp (put_pos _ _) (put_le _ _ hl) (Nat.le_refl _) hg
theorem endsP_not {s : List UInt8} {i : Nat} (hi : i ≤ s.length) (h : endsP s i = false) : i < s.length := by
 unfold endsP at h
 rw [Bool.or_eq_false_iff, decide_eq_false_iff_not] at h
 omega
theorem itemsP_goes {s : List UInt8} {row : BRd → Except Er (Bool × BRd)} {g : Nat} (hrow : ∀ k, g ≤ k → k < 9 → RowOk s (k + 1) row) :
  ∀ (f : Nat) (r : BRd) (ps : List Int), r.p ≤ s.length → s.length < f + r.p → r.l.length ≤ 121 → g ≤ r.g → r.g ≤ 9 → (ps ≠ [] → 1 ≤ r.l.length) →
  (∀ e, itemsP s row f r ps = .error e → ErOk s e) ∧ (∀ l q, itemsP s row f r ps = .ok (l, q) → r.p ≤ q.p ∧ q.p ≤ s.length ∧ q.l.length ≤ 121 ∧ r.g ≤ q.g ∧ q.g ≤ 9 ∧ (l ≠ [] → 1 ≤ q.l.length))
 | 0, r, ps, hp, hf, hl, hg, hg9, h1 => by omega
 | f + 1, r, ps, hp, hf, hl, hg, hg9, h1 => by
  rw [itemsP]
  split
  ·exact ⟨fun e h => by (cases h), fun l q h => by cases h; exact ⟨Nat.le_refl _, hp, hl, Nat.le_refl _, hg9, h1⟩⟩
  ·rename_i hn
   have hlt := endsP_not hp (by simpa using hn)
   have I := itemP_goes (row := row) hlt hl hg9 (fun q e h => by rw [e] at h ⊢; exact hrow _ hg h)
   split
   ·rename_i e he
    exact ⟨fun e' h => by cases h; exact I.1 _ he, fun l q h => by cases h⟩
   ·rename_i i q hq
    have G := I.2 i q hq
    have := itemsP_goes hrow f q (ps ++ [i]) G.e (by have := G.p; omega) G.l (Nat.le_trans hg G.g) G.g9 (fun _ => G.l1)
    exact ⟨this.1, fun l q' h => by
     have t := this.2 l q' h
     have := G.p; have := G.g
     exact ⟨by omega, t.2.1, t.2.2.1, by omega, t.2.2.2.2⟩⟩
theorem catsP_keeps : ∀ (tl : List Int) (r : BRd) (b : Int), r.l.length ≤ 121 → (catsP tl r b).p = r.p ∧ (catsP tl r b).g = r.g ∧ (catsP tl r b).l.length ≤ 121 ∧ (1 ≤ r.l.length → 1 ≤ (catsP tl r b).l.length)
 | [], r, b, h => ⟨rfl, rfl, h, id⟩
 | a :: tl, r, b, h => by
  rw [catsP]
  have := catsP_keeps tl (r.put ⟨4, 0, 0, 0, 0, a, b, 0, 0, 0⟩) (((r.put ⟨4, 0, 0, 0, 0, a, b, 0, 0, 0⟩).l.length : Int) - 1) (put_le _ _ h)
  exact ⟨this.1, this.2.1, this.2.2.1, fun _ => this.2.2.2 (put_pos _ _)⟩
theorem rowP_ok (s : List UInt8) : ∀ (f g : Nat), 9 < f + g → g ≤ 9 → RowOk s g (rowP s f)
 | 0, g, h, hg => by omega
 | f + 1, g, h, hg => by
  have IH : ∀ k, g ≤ k → k < 9 → RowOk s (k + 1) (rowP s f) := fun k h1 h2 => rowP_ok s f (k + 1) (by omega) (by omega)
  have key : ∀ r : BRd, r.p ≤ s.length → r.l.length ≤ 121 → r.g = g → (∀ e, rowP s (f + 1) r = .error e → ErOk s e) ∧ ∀ b q, rowP s (f + 1) r = .ok (b, q) → r.p ≤ q.p ∧ q.p ≤ s.length ∧ q.l.length ≤ 121 ∧ g ≤ q.g ∧ q.g ≤ 9 ∧ (b = true → 1 ≤ q.l.length) := fun r hp hl hr => by
   rw [rowP]
   try simp only
   obtain ⟨r1, h1⟩ : ∃ r1, r1 = (if ah s r.p [94] then (r.to (r.p + 1)).put (kindNd 2) else r) := ⟨_, rfl⟩
   obtain ⟨p1, h2⟩ : ∃ p1 : List Int, p1 = (if ah s r.p [94] then [(r1.l.length : Int) - 1] else []) := ⟨_, rfl⟩
   rw [← h1]
   rw [← h2]
   have a1 : r.p ≤ r1.p ∧ r1.p ≤ s.length ∧ r1.l.length ≤ 121 ∧ r1.g = g ∧ (p1 ≠ [] → 1 ≤ r1.l.length) := by
    rw [h2, h1]
    split
    ·rename_i q
     have := ah_le q
     refine ⟨Nat.le_succ _, ?_, put_le _ _ hl, hr, fun _ => put_pos _ _⟩
     rcases this with t | t
     ·exact t
     ·cases t
    ·exact ⟨Nat.le_refl _, hp, hl, hr, fun q => absurd rfl q⟩
   have I := itemsP_goes (row := rowP s f) (g := g) IH (s.length + 1) r1 p1 a1.2.1 (by omega) a1.2.2.1 (by omega) (by omega) a1.2.2.2.2
   split
   ·rename_i e he
    exact ⟨fun e' h => by cases h; exact I.1 _ he, fun b q h => by cases h⟩
   ·rename_i ps q hq
    have t := I.2 ps q hq
    split
    ·exact ⟨fun e h => by (cases h), fun b q' h => by cases h; exact ⟨by omega, t.2.1, t.2.2.1, by omega, by omega, fun q => by cases q⟩⟩
    ·rename_i b tl hr2
     have hne : ps ≠ [] := fun e => by rw [e] at hr2; cases hr2
     have C := catsP_keeps tl q b t.2.2.1
     exact ⟨fun e h => by (cases h), fun b' q' h => by
      cases h
      refine ⟨?_, ?_, C.2.2.1, ?_, ?_, fun _ => C.2.2.2 (t.2.2.2.2.2 hne)⟩
      ·rw [C.1]; omega
      ·rw [C.1]; exact t.2.1
      ·rw [C.2.1]; omega
      ·rw [C.2.1]; omega⟩
  exact ⟨fun r h1 h2 h3 => (key r h1 h2 h3).1, fun r h1 h2 h3 => (key r h1 h2 h3).2⟩
theorem wholeP_er (s : List UInt8) (e : Er) (h : wholeP s = .error e) : ErOk s e := by
 unfold wholeP at h
 simp only at h
 have R := rowP_ok s 10 0 (by omega) (by omega)
 split at h
 ·cases h
 split at h
 ·rename_i e' he
  cases h
  exact R.er _ (Nat.zero_le _) (Nat.zero_le _) rfl _ he
 ·rename_i b q hq
  have O := R.ok _ (Nat.zero_le _) (Nat.zero_le _) rfl b q hq
  split at h
  ·cases h; exact erOk (O.2.1) (by decide)
  split at h
  ·cases h; exact erOk (Nat.zero_le _) (by decide)
  ·cases h
theorem itemsP_nil {s : List UInt8} {row : BRd → Except Er (Bool × BRd)} : ∀ (f : Nat) (r : BRd) (ps l : List Int) (q : BRd), itemsP s row f r ps = .ok (l, q) → ps.length ≤ l.length ∧ (l.length = ps.length → q = r)
 | 0, r, ps, l, q, h => by cases h
 | f + 1, r, ps, l, q, h => by
  rw [itemsP] at h
  split at h
  ·cases h; exact ⟨Nat.le_refl _, fun _ => rfl⟩
  split at h
  ·cases h
  ·have := itemsP_nil f _ _ l q h
   rw [List.length_append] at this
   simp only [List.length_cons, List.length_nil] at this
   exact ⟨by omega, fun e => by omega⟩
theorem rowP_no {s : List UInt8} {f : Nat} {r q : BRd} (h : rowP s f r = .ok (false, q)) : q = r := by
 cases f with
 | zero => cases h
 | succ f =>
  rw [rowP] at h
  try simp only at h
  split at h
  ·cases h
  ·rename_i ps q' hq
   have N := itemsP_nil _ _ _ _ _ hq
   split at h
   ·rename_i hr
    cases h
    have e : ps = [] := by simpa using hr
    subst e
    by_cases ha : ah s r.p [94] = true
    ·rw [if_pos ha] at N
     simp at N
    ·rw [if_neg ha, if_neg ha] at N
     exact N.2 rfl
   ·cases h
theorem wholeP_one (s : List UInt8) (q : BRd) (h : wholeP s = .ok q) : 1 ≤ q.l.length := by
 unfold wholeP at h
 simp only at h
 have R := rowP_ok s 10 0 (by omega) (by omega)
 split at h
 ·cases h; exact put_pos _ _
 rename_i hs
 split at h
 ·cases h
 ·rename_i b q' hq
  have O := R.ok _ (Nat.zero_le _) (Nat.zero_le _) rfl b q' hq
  split at h
  ·cases h
  rename_i hp
  split at h
  ·cases h
  ·cases h
   cases b with
   | true => exact O.2.2.2.2.2 rfl
   | false =>
    have := rowP_no hq
    subst this
    exact absurd (List.length_eq_zero_iff.1 (Decidable.not_not.1 hp).symm) hs
end Go.Proofs.YtdjcgjkbecncaaaGreatDoor
