/- A text has one reading: of no program. -/
import Derived.Test.YtjgegohidhdbpaaGreatDoorJRxU
import Derived.Test.YtjgegohidhdbpaaGreatDoorJSetJ
import Derived.Test.YtjgegohidhdbpaaGreatDoorJRxTi
import Derived.Lib.AtoiAllCases
import Derived.BigQuiet
open Go.Proofs.Tryz
set_option linter.unusedVariables false
set_option linter.unusedSimpArgs false
set_option maxRecDepth 100000
set_option maxHeartbeats 40000000
namespace Go.Proofs.YtjgegohidhdbpaaGreatDoor
open Go.Lib
def T.groups : T → Nat
 | .leaf _ => 0
 | .two _ a b => a.groups + b.groups
 | .times _ _ t => t.groups
 | .group _ t => t.groups + 1
theorem ZU : ∀ (t : T) (s u : Nat × (Nat → Bool)), num t s = some u → u.1 = s.1 + t.groups
 | .leaf x, s, u, h => by
  simp only [num] at h
  split at h
  ·split at h
   ·cases h; rfl
   ·cases h
  ·cases h; rfl
 | .two k a b, s, u, h => by
  simp only [num, Option.bind_eq_some_iff] at h
  obtain ⟨v, h1, h2⟩ := h
  have e1 := ZU a s v h1
  have e2 := ZU b v u h2
  simp only [T.groups]; omega
 | .times m M t, s, u, h => ZU t s u h
 | .group n t, s, u, h => by
  simp only [num] at h
  split at h
  ·simp only [Option.map_eq_some_iff] at h
   obtain ⟨v, h1, rfl⟩ := h
   have := ZU t _ v h1
   simp only [T.groups] at *; omega
  ·cases h
def T.refs : T → Nat
 | .leaf x => if x.kind = 8 then 1 else 0
 | .two _ a b => a.refs + b.refs
 | .times _ _ t => t.refs
 | .group _ t => t.refs
theorem Q0 {xs : List Nd} {k : Nat} {x : Nd} (h : xs[k]? = some x) : UN xs (k + 1) = UN xs k + (if x.kind = 7 then 1 else 0) := by simp only [UN, h]
theorem ji {xs : List Nd} : ∀ (t : T) (o : Nat), t.Ok → T.At (fun i => xs[i]?) t o → UN xs (o + t.size) = UN xs o + t.groups ∧ (jN xs (o + t.size) ↔ jN xs o ∨ 0 < t.refs)
 | .leaf x, o, h, a => by
  have hx : xs[o]? = some x := a
  have hk := h.2
  refine ⟨?_, ?_⟩
  ·show UN xs (o + 1) = _
   rw [Q0 hx, if_neg (by omega)]; rfl
  ·show jN xs (o + 1) ↔ _
   constructor
   ·rintro ⟨j, y, hj, hy, h8⟩
    by_cases e : j = o
    ·subst e; rw [hx] at hy; cases hy; right; simp [T.refs, h8]
    ·exact .inl ⟨j, y, by omega, hy, h8⟩
   ·rintro (⟨j, y, hj, hy, h8⟩ | h)
    ·exact ⟨j, y, by omega, hy, h8⟩
    ·refine ⟨o, x, by omega, hx, ?_⟩
     simp only [T.refs] at h
     split at h
     ·assumption
     ·omega
 | .two k p q, o, h, a => by
  obtain ⟨a1, a2⟩ := ji p o h.2.1 a.1
  obtain ⟨b1, b2⟩ := ji q (o + p.size) h.2.2 a.2.1
  have hx := a.2.2
  have hk : (T.root (.two k p q) o).kind = k := rfl
  have e : o + (T.two k p q).size = o + p.size + q.size + 1 := by simp only [T.size]; omega
  rw [e]
  refine ⟨?_, ?_⟩
  ·rw [Q0 hx, b1, a1, hk, if_neg (by rcases h.1 with rfl | rfl <;> decide)]; simp only [T.groups]; omega
  ·constructor
   ·rintro ⟨j, y, hj, hy, h8⟩
    by_cases ej : j = o + p.size + q.size
    ·subst ej
     have : (some (T.root (.two k p q) o) : Option Nd) = some y := by rw [← hx]; exact hy
     cases this
     exfalso
     rw [hk] at h8
     rcases h.1 with rfl | rfl <;> cases h8
    ·rcases b2.1 ⟨j, y, by omega, hy, h8⟩ with h' | h'
     ·rcases a2.1 h' with h'' | h''
      ·exact .inl h''
      ·right; simp only [T.refs]; omega
     ·right; simp only [T.refs]; omega
   ·intro h'
    have up : ∀ m, m ≤ o + p.size + q.size → jN xs m → jN xs (o + p.size + q.size + 1) := fun m hm ⟨j, y, hj, hy, h8⟩ => ⟨j, y, by omega, hy, h8⟩
    rcases h' with h' | h'
    ·exact up _ (by omega) h'
    ·simp only [T.refs] at h'
     by_cases hp : 0 < p.refs
     ·exact up _ (by omega) (a2.2 (.inr hp))
     ·exact up _ (by omega) (b2.2 (.inr (by omega)))
 | .times m M p, o, h, a => by
  obtain ⟨a1, a2⟩ := ji p o h.2 a.1
  have hx := a.2
  have hk : (T.root (.times m M p) o).kind = 6 := rfl
  have e : o + (T.times m M p).size = o + p.size + 1 := by simp only [T.size]; omega
  rw [e]
  refine ⟨?_, ?_⟩
  ·rw [Q0 hx, a1, hk, if_neg (by decide)]; simp only [T.groups]; omega
  ·constructor
   ·rintro ⟨j, y, hj, hy, h8⟩
    by_cases ej : j = o + p.size
    ·subst ej
     have : (some (T.root (.times m M p) o) : Option Nd) = some y := by rw [← hx]; exact hy
     cases this
     cases h8
    ·rcases a2.1 ⟨j, y, by omega, hy, h8⟩ with h' | h'
     ·exact .inl h'
     ·right; simpa only [T.refs] using h'
   ·intro h'
    obtain ⟨j, y, hj, hy, h8⟩ := a2.2 (h'.imp id (by simp only [T.refs]; exact id))
    exact ⟨j, y, by omega, hy, h8⟩
 | .group n p, o, h, a => by
  obtain ⟨a1, a2⟩ := ji p o h.2 a.1
  have hx := a.2
  have hk : (T.root (.group n p) o).kind = 7 := rfl
  have e : o + (T.group n p).size = o + p.size + 1 := by simp only [T.size]; omega
  rw [e]
  refine ⟨?_, ?_⟩
  ·rw [Q0 hx, a1, hk, if_pos rfl]; simp only [T.groups]; omega
  ·constructor
   ·rintro ⟨j, y, hj, hy, h8⟩
    by_cases ej : j = o + p.size
    ·subst ej
     have : (some (T.root (.group n p) o) : Option Nd) = some y := by rw [← hx]; exact hy
     cases this
     cases h8
    ·rcases a2.1 ⟨j, y, by omega, hy, h8⟩ with h' | h'
     ·exact .inl h'
     ·right; simpa only [T.refs] using h'
   ·intro h'
    obtain ⟨j, y, hj, hy, h8⟩ := a2.2 (h'.imp id (by simp only [T.refs]; exact id))
    exact ⟨j, y, by omega, hy, h8⟩
open Go.RowKit
structure Rd where
 left : List UInt8
 xs : List Nd
 begun : Nat
 groups : Nat
def Rd.put (σ : Rd) (x : Nd) : Int × Rd := ((σ.xs.length : Int), ⟨σ.left, σ.xs ++ [x], σ.begun, σ.groups⟩)
def kj (l : List UInt8) : Nd := ⟨1, wd (Uq ⟨l.toArray⟩ l.length) 0, wd (Uq ⟨l.toArray⟩ l.length) 1, wd (Uq ⟨l.toArray⟩ l.length) 2, wd (Uq ⟨l.toArray⟩ l.length) 3, 0, 0, 0, 0, 0⟩
def jH (l : List UInt8) : Nd := ⟨8, 0, 0, 0, 0, 0, 0, 0, 0, ((l.headD 0).toNat : Int) - 48⟩
def Rd.up (σ : Rd) (e : UInt8) : Rd := ⟨(Lib.cut σ.left [e]).2.1, σ.xs, σ.begun, σ.groups⟩
def Rd.ahead (σ : Rd) (e : UInt8) : List UInt8 := (Lib.cut σ.left [e]).1
def Rd.tl (σ : Rd) : Rd := ⟨σ.left.tail, σ.xs, σ.begun, σ.groups⟩
def Rd.grp (σ : Rd) : Rd := ⟨σ.left, σ.xs, σ.begun, σ.groups + 1⟩
def kT (f : Rd → Int × Rd) (k : Int) (σ : Rd) : Int × Rd := (f (f σ).2).2.put ⟨k, 0, 0, 0, 0, (f σ).1, (f (f σ).2).1, 0, 0, 0⟩
def jd (f : Rd → Int × Rd) (σ : Rd) : Int × Rd := (f ((σ.up 44).up 59)).2.put ⟨6, 0, 0, 0, 0, (f ((σ.up 44).up 59)).1, 0, zy (σ.ahead 44), zy ((σ.up 44).ahead 59), 0⟩
def je (f : Rd → Int × Rd) (σ : Rd) : Int × Rd := (f σ.grp).2.tl.put ⟨7, 0, 0, 0, 0, (f σ.grp).1, 0, 0, 0, (σ.groups : Int) + 1⟩
def kG (f : Rd → Int × Rd) (c : UInt8) (σ : Rd) : Int × Rd :=
 if c = 101 then σ.put ⟨0, 0, 0, 0, 0, 0, 0, 0, 0, 0⟩
 else if c = 91 then (σ.up 93).put (kj (unhex (σ.ahead 93)))
 else if c = 94 then σ.put ⟨2, 0, 0, 0, 0, 0, 0, 0, 0, 0⟩
 else if c = 36 then σ.put ⟨3, 0, 0, 0, 0, 0, 0, 0, 0, 0⟩
 else if c = 38 then kT f 4 σ
 else if c = 124 then kT f 5 σ
 else if c = 42 then jd f σ
 else if c = 40 then je f σ
 else if c = 92 then σ.tl.put (jH σ.left)
 else (0, σ)
def Rd.nx (σ : Rd) : Rd := ⟨σ.left, σ.xs, σ.begun + 1, σ.groups⟩
def rd : Nat → Rd → Int × Rd
 | 0, σ => (0, σ.nx)
 | n + 1, σ => if 120 < σ.begun + 1 then (0, σ.nx) else match σ.left with
  | [] => (0, σ.nx)
  | c :: l => kG (rd n) c σ.nx.tl
structure Goes (σ τ : Rd) : Prop where
 b : σ.begun ≤ τ.begun
 g : σ.groups ≤ τ.groups
 x : σ.xs.length ≤ τ.xs.length
 l : τ.left.length ≤ σ.left.length
theorem Goes.refl (σ : Rd) : Goes σ σ := ⟨Nat.le_refl _, Nat.le_refl _, Nat.le_refl _, Nat.le_refl _⟩
theorem Goes.trans {σ τ υ : Rd} (h : Goes σ τ) (h' : Goes τ υ) : Goes σ υ := ⟨Nat.le_trans h.b h'.b, Nat.le_trans h.g h'.g, Nat.le_trans h.x h'.x, Nat.le_trans h'.l h.l⟩
theorem Goes.put (σ : Rd) (x : Nd) : Goes σ (σ.put x).2 := ⟨Nat.le_refl _, Nat.le_refl _, by simp [Rd.put], Nat.le_refl _⟩
theorem Goes.up (σ : Rd) (e : UInt8) : Goes σ (σ.up e) := ⟨Nat.le_refl _, Nat.le_refl _, Nat.le_refl _, (GX _ _).2⟩
theorem Goes.tl (σ : Rd) : Goes σ σ.tl := ⟨Nat.le_refl _, Nat.le_refl _, Nat.le_refl _, by simp [Rd.tl]⟩
theorem Goes.grp (σ : Rd) : Goes σ σ.grp := ⟨Nat.le_refl _, by simp [Rd.grp], Nat.le_refl _, Nat.le_refl _⟩
theorem Goes.nx (σ : Rd) : Goes σ σ.nx := ⟨by simp [Rd.nx], Nat.le_refl _, Nat.le_refl _, Nat.le_refl _⟩
theorem Wn (f : Rd → Int × Rd) (hf : ∀ σ, Goes σ (f σ).2) (c : UInt8) (σ : Rd) : Goes σ (kG f c σ).2 := by
 unfold kG
 repeat' split
 ·exact .put _ _
 ·exact (Goes.up _ _).trans (.put _ _)
 ·exact .put _ _
 ·exact .put _ _
 ·exact ((hf _).trans (hf _)).trans (.put _ _)
 ·exact ((hf _).trans (hf _)).trans (.put _ _)
 ·exact (((Goes.up _ _).trans (.up _ _)).trans (hf _)).trans (.put _ _)
 ·exact (((Goes.grp _).trans (hf _)).trans (.tl _)).trans (.put _ _)
 ·exact (Goes.tl _).trans (.put _ _)
 ·exact .refl _
theorem Wo : ∀ (n : Nat) (σ : Rd), Goes σ.nx (rd n σ).2
 | 0, σ => .refl _
 | n + 1, σ => by
  have ih : ∀ σ, Goes σ (rd n σ).2 := fun σ => (Goes.nx σ).trans (Wo n σ)
  unfold rd
  split
  ·exact .refl _
  ·split
   ·exact .refl _
   ·exact (Goes.tl _).trans (Wn _ ih _ _)
theorem ZV (n : Nat) (σ : Rd) : Goes σ (rd n σ).2 := (Goes.nx σ).trans (Wo n σ)
structure Few (σ τ : Rd) (j : Nat) : Prop where
 x : τ.xs.length + min σ.begun 120 ≤ σ.xs.length + min τ.begun 120
 g : τ.groups + min σ.begun 120 ≤ σ.groups + min τ.begun 120
 b : τ.begun + 2 * min σ.begun 120 ≤ σ.begun + 2 * min τ.begun 120 + j
theorem qce : ∀ (n : Nat) (σ : Rd), 120 ≤ σ.begun + n → Few σ (rd n σ).2 1
 | 0, σ, h => ⟨by simp [rd, Rd.nx]; omega, by simp [rd, Rd.nx]; omega, by simp [rd, Rd.nx]; omega⟩
 | n + 1, σ, h => by
  unfold rd
  split
  ·exact ⟨by simp [Rd.nx]; omega, by simp [Rd.nx]; omega, by simp [Rd.nx]; omega⟩
  ·rename_i zb
   split
   ·exact ⟨by simp [Rd.nx]; omega, by simp [Rd.nx]; omega, by simp [Rd.nx]; omega⟩
   ·rename_i c l _
    have ih := fun σ' (h' : σ.begun + 1 ≤ σ'.begun) => qce n σ' (by omega)
    have hb := fun σ' => (ZV n σ').b
    have e : (σ.nx.tl).begun = σ.begun + 1 := rfl
    have e1 : (σ.nx.tl).xs = σ.xs := rfl
    have e2 : (σ.nx.tl).groups = σ.groups := rfl
    generalize σ.nx.tl = τ at *
    have two : ∀ k, Few σ (kT (rd n) k τ).2 1 := fun k => by
     have i1 := ih τ (by omega)
     have b1 := hb τ
     unfold kT
     generalize rd n τ = u at *
     have i2 := ih u.2 (by omega)
     have b2 := hb u.2
     generalize rd n u.2 = v at *
     obtain ⟨x1, g1, b1'⟩ := i1
     obtain ⟨x2, g2, b2'⟩ := i2
     rw [e1] at x1
     rw [e2] at g1
     exact ⟨by simp [Rd.put]; omega, by simp [Rd.put]; omega, by simp [Rd.put]; omega⟩
    unfold kG
    repeat' split
    ·exact ⟨by simp [Rd.put, e1]; omega, by simp [Rd.put, e2]; omega, by simp [Rd.put]; omega⟩
    ·exact ⟨by simp [Rd.put, Rd.up, e1]; omega, by simp [Rd.put, Rd.up, e2]; omega, by simp [Rd.put, Rd.up]; omega⟩
    ·exact ⟨by simp [Rd.put, e1]; omega, by simp [Rd.put, e2]; omega, by simp [Rd.put]; omega⟩
    ·exact ⟨by simp [Rd.put, e1]; omega, by simp [Rd.put, e2]; omega, by simp [Rd.put]; omega⟩
    ·exact two 4
    ·exact two 5
    ·unfold jd
     have i1 := ih ((τ.up 44).up 59) (by simp [Rd.up]; omega)
     have b1 := hb ((τ.up 44).up 59)
     have f0 : ((τ.up 44).up 59).begun = τ.begun := rfl
     have f1 : ((τ.up 44).up 59).xs = τ.xs := rfl
     have f2 : ((τ.up 44).up 59).groups = τ.groups := rfl
     generalize rd n ((τ.up 44).up 59) = u at *
     obtain ⟨x1, g1, b1'⟩ := i1
     rw [f1, e1] at x1
     exact ⟨by simp [Rd.put]; omega, by simp [Rd.put]; omega, by simp [Rd.put]; omega⟩
    ·unfold je
     have i1 := ih τ.grp (by simp [Rd.grp]; omega)
     have b1 := hb τ.grp
     have f0 : τ.grp.begun = τ.begun := rfl
     have f1 : τ.grp.xs = τ.xs := rfl
     have f2 : τ.grp.groups = τ.groups + 1 := rfl
     generalize rd n τ.grp = u at *
     obtain ⟨x1, g1, b1'⟩ := i1
     rw [f1, e1] at x1
     exact ⟨by simp [Rd.put, Rd.tl]; omega, by simp [Rd.put, Rd.tl]; omega, by simp [Rd.put, Rd.tl]; omega⟩
    ·exact ⟨by simp [Rd.put, Rd.tl, e1]; omega, by simp [Rd.put, Rd.tl, e2]; omega, by simp [Rd.put, Rd.tl]; omega⟩
    ·exact ⟨by show τ.xs.length + _ ≤ _ + min τ.begun 120; rw [e1]; omega, by show τ.groups + _ ≤ _ + min τ.begun 120; rw [e2]; omega, by show τ.begun + _ ≤ _ + 2 * min τ.begun 120 + 1; omega⟩
theorem QB (l : List UInt8) : -9223372036854775808 ≤ zy l ∧ zy l ≤ 9223372036854775807 := by
 unfold zy
 split
 ·rename_i v hv
  exact atoiAll_bounds hv
 ·exact atoiSat_bounds l
 ·omega
theorem Y4 (l : List UInt8) : (kj l).Fits := ⟨by simp [kj], zQ _ _, zQ _ _, zQ _ _, zQ _ _, by simp [kj], by simp [kj], by simp [kj], by simp [kj], by simp [kj]⟩
theorem UR (l : List UInt8) : (jH l).Fits := by
 have h := (l.headD 0).toNat_lt
 exact ⟨by simp [jH], by simp [jH], by simp [jH], by simp [jH], by simp [jH], by simp [jH], by simp [jH], by simp [jH], by simp [jH], by simp only [jH]; omega⟩
def yq (σ : Rd) : Prop := ∀ x ∈ σ.xs, x.Fits
theorem yq.put {σ : Rd} (h : yq σ) {x : Nd} (hx : x.Fits) : yq (σ.put x).2 := fun y hy => by
 have hy' : y ∈ σ.xs ++ [x] := hy
 rcases List.mem_append.1 hy' with h1 | h1
 ·exact h y h1
 ·rw [List.mem_singleton.1 h1]; exact hx
theorem GT : ∀ (n : Nat) (σ : Rd), yq σ → (rd n σ).2.xs.length ≤ 1000 → (rd n σ).2.groups ≤ 1000 → yq (rd n σ).2 ∧ 0 ≤ (rd n σ).1 ∧ (rd n σ).1 ≤ 1000
 | 0, σ, h => fun _ _ => ⟨h, by simp [rd], by simp [rd]⟩
 | n + 1, σ, h => by
  unfold rd
  split
  ·exact fun _ _ => ⟨h, by simp, by simp⟩
  ·split
   ·exact fun _ _ => ⟨h, by simp, by simp⟩
   ·have ih := GT n
    have hg := ZV n
    have h1 : yq σ.nx.tl := h
    generalize σ.nx.tl = τ at *
    have sm : ∀ k : Int, 0 ≤ k → k ≤ 8 → (⟨k, 0, 0, 0, 0, 0, 0, 0, 0, 0⟩ : Nd).Fits := fun k a b => ⟨⟨by simp; omega, by simp; omega⟩, by simp, by simp, by simp, by simp, by simp, by simp, by simp, by simp, by simp⟩
    have two : ∀ k : Int, 0 ≤ k → k ≤ 8 → (kT (rd n) k τ).2.xs.length ≤ 1000 → (kT (rd n) k τ).2.groups ≤ 1000 → yq (kT (rd n) k τ).2 ∧ 0 ≤ (kT (rd n) k τ).1 ∧ (kT (rd n) k τ).1 ≤ 1000 := fun k k0 k8 l1 l2 => by
     unfold kT at l1 l2 ⊢
     have g2 := hg (rd n τ).2
     have q := (Goes.put (rd n (rd n τ).2).2 ⟨k, 0, 0, 0, 0, (rd n τ).1, (rd n (rd n τ).2).1, 0, 0, 0⟩)
     have qx := q.x; have qg := q.g; have gx := g2.x; have gg := g2.g
     obtain ⟨f1, r1, r2⟩ := ih τ h1 (by omega) (by omega)
     obtain ⟨f2, r3, r4⟩ := ih _ f1 (by omega) (by omega)
     refine ⟨f2.put ⟨⟨by simp; omega, by simp; omega⟩, by simp, by simp, by simp, by simp, ⟨by simp; omega, by simp; omega⟩, ⟨by simp; omega, by simp; omega⟩, by simp, by simp, by simp⟩, ?_, ?_⟩
     ·simp [Rd.put]
     ·simp [Rd.put] at l1 ⊢; omega
    unfold kG
    split
    ·exact fun l1 l2 => ⟨h1.put (sm 0 (by omega) (by omega)), by simp [Rd.put], by simp [Rd.put] at l1 ⊢; omega⟩
    split
    ·exact fun l1 l2 => ⟨yq.put (σ := τ.up 93) h1 (Y4 _), by simp [Rd.put], by simp [Rd.put] at l1 ⊢; omega⟩
    split
    ·exact fun l1 l2 => ⟨h1.put (sm 2 (by omega) (by omega)), by simp [Rd.put], by simp [Rd.put] at l1 ⊢; omega⟩
    split
    ·exact fun l1 l2 => ⟨h1.put (sm 3 (by omega) (by omega)), by simp [Rd.put], by simp [Rd.put] at l1 ⊢; omega⟩
    split
    ·exact two 4 (by omega) (by omega)
    split
    ·exact two 5 (by omega) (by omega)
    split
    ·intro l1 l2
     unfold jd at l1 l2 ⊢
     have q := (Goes.put (rd n ((τ.up 44).up 59)).2 ⟨6, 0, 0, 0, 0, (rd n ((τ.up 44).up 59)).1, 0, zy (τ.ahead 44), zy ((τ.up 44).ahead 59), 0⟩)
     have qx := q.x; have qg := q.g
     obtain ⟨f1, r1, r2⟩ := ih ((τ.up 44).up 59) h1 (by omega) (by omega)
     refine ⟨f1.put ⟨by simp, by simp, by simp, by simp, by simp, ⟨by simp; omega, by simp; omega⟩, by simp, QB _, QB _, by simp⟩, ?_, ?_⟩
     ·simp [Rd.put]
     ·simp [Rd.put] at l1 ⊢; omega
    split
    ·intro l1 l2
     unfold je at l1 l2 ⊢
     have q := (Goes.put (rd n τ.grp).2.tl ⟨7, 0, 0, 0, 0, (rd n τ.grp).1, 0, 0, 0, (τ.groups : Int) + 1⟩)
     have gx := (hg τ.grp).g
     have e2 : τ.grp.groups = τ.groups + 1 := rfl
     have qx := q.x; have qg := q.g
     have e3 : (rd n τ.grp).2.tl.groups = (rd n τ.grp).2.groups := rfl
     have e4 : (rd n τ.grp).2.tl.xs = (rd n τ.grp).2.xs := rfl
     rw [e4] at qx
     obtain ⟨f1, r1, r2⟩ := ih τ.grp h1 (by omega) (by omega)
     refine ⟨yq.put (σ := (rd n τ.grp).2.tl) f1 ⟨by simp, by simp, by simp, by simp, by simp, ⟨by simp; omega, by simp; omega⟩, by simp, by simp, by simp, ⟨by simp; omega, by simp; omega⟩⟩, ?_, ?_⟩
     ·simp [Rd.put]
     ·simp [Rd.put] at l1 ⊢; omega
    split
    ·exact fun l1 l2 => ⟨yq.put (σ := τ.tl) h1 (UR _), by simp [Rd.put], by simp [Rd.put] at l1 ⊢; omega⟩
    ·exact fun l1 l2 => ⟨h1, by simp, by simp⟩
def T.nodes : T → Nat → List Nd
 | .leaf x, _ => [x]
 | .two k a b, o => a.nodes o ++ (b.nodes (o + a.size) ++ [T.root (.two k a b) o])
 | .times m M t, o => t.nodes o ++ [T.root (.times m M t) o]
 | .group n t, o => t.nodes o ++ [T.root (.group n t) o]
theorem T.nodes_len : ∀ (t : T) (o : Nat), (t.nodes o).length = t.size
 | .leaf x, o => rfl
 | .two k a b, o => by simp [T.nodes, T.size, T.nodes_len a, T.nodes_len b]; omega
 | .times m M t, o => by simp [T.nodes, T.size, T.nodes_len t]
 | .group n t, o => by simp [T.nodes, T.size, T.nodes_len t]
theorem T.At.nodes {l : Nat → Option Nd} : ∀ (t : T) (o : Nat), T.At l t o → ∀ i, i < t.size → l (o + i) = (t.nodes o)[i]?
 | .leaf x, o, h, i, hi => by
  simp only [T.size] at hi
  obtain rfl : i = 0 := by omega
  exact h
 | .two k a b, o, ⟨h1, h2, h3⟩, i, hi => by
  simp only [T.size] at hi
  simp only [T.nodes]
  rcases Nat.lt_or_ge i a.size with c | c
  ·rw [List.getElem?_append_left (by rw [T.nodes_len]; exact c)]
   exact T.At.nodes a o h1 i c
  ·rw [List.getElem?_append_right (by rw [T.nodes_len]; exact c), T.nodes_len]
   rcases Nat.lt_or_ge (i - a.size) b.size with d | d
   ·rw [List.getElem?_append_left (by rw [T.nodes_len]; exact d), ← T.At.nodes b _ h2 _ d]
    congr 1; omega
   ·rw [List.getElem?_append_right (by rw [T.nodes_len]; exact d), T.nodes_len]
    have e : i - a.size - b.size = 0 := by omega
    rw [e, show o + i = o + a.size + b.size by omega, h3]
    rfl
 | .times m M t, o, ⟨h1, h3⟩, i, hi => by
  simp only [T.size] at hi
  simp only [T.nodes]
  rcases Nat.lt_or_ge i t.size with c | c
  ·rw [List.getElem?_append_left (by rw [T.nodes_len]; exact c)]
   exact T.At.nodes t o h1 i c
  ·rw [List.getElem?_append_right (by rw [T.nodes_len]; exact c), T.nodes_len]
   have e : i - t.size = 0 := by omega
   rw [e, show o + i = o + t.size by omega, h3]
   rfl
 | .group n t, o, ⟨h1, h3⟩, i, hi => by
  simp only [T.size] at hi
  simp only [T.nodes]
  rcases Nat.lt_or_ge i t.size with c | c
  ·rw [List.getElem?_append_left (by rw [T.nodes_len]; exact c)]
   exact T.At.nodes t o h1 i c
  ·rw [List.getElem?_append_right (by rw [T.nodes_len]; exact c), T.nodes_len]
   have e : i - t.size = 0 := by omega
   rw [e, show o + i = o + t.size by omega, h3]
   rfl
theorem qN.nodes {xs : List Nd} {t : T} (h : qN xs t) : xs = t.nodes 0 := by
 obtain ⟨_, ha, hs, _⟩ := h
 apply List.ext_getElem?
 intro i
 rcases Nat.lt_or_ge i t.size with c | c
 ·have := T.At.nodes t 0 ha i c
  rw [Nat.zero_add] at this
  exact this
 ·rw [List.getElem?_eq_none (by omega), List.getElem?_eq_none (by rw [T.nodes_len]; exact c)]
theorem qa1 {x : Nd} (hx : x.Fits) (ox : T.Ok (.leaf x)) (hk : x.kind = 1) : kj (bytesOf x.set).data.toList = x := by
 obtain ⟨nx, _⟩ := ox
 unfold qY at nx
 rw [if_neg (by omega), if_pos hk, Bool.and_eq_true] at nx
 have e := of_decide_eq_true nx.2
 obtain ⟨a0, a1, a2, a3⟩ := jK hx.s0 hx.s1 hx.s2 hx.s3
 have e2 : (⟨(bytesOf x.set).data.toList.toArray⟩ : ByteArray) = bytesOf x.set := rfl
 have e3 : (bytesOf x.set).data.toList.length = (bytesOf x.set).size := by simp
 have hw : ∀ k, k < 4 → wd (Uq (bytesOf x.set) (bytesOf x.set).size) k = wd x.set k := fun k hk => Qz hk fun i hi => Wb x.set i hi
 unfold kj
 rw [e2, e3, hw 0 (by omega), hw 1 (by omega), hw 2 (by omega), hw 3 (by omega)]
 rw [show wd x.set 0 = x.w0 from a0, show wd x.set 1 = x.w1 from a1, show wd x.set 2 = x.w2 from a2, show wd x.set 3 = x.w3 from a3]
 exact e.symm
theorem qfk : ∀ (t : T) (n : Nat) (σ : Rd) (en : Nat → Bool) (u : Nat × (Nat → Bool)) (r : List UInt8), t.Ok → VY t → num t (σ.groups, en) = some u → σ.left = text t ++ r → σ.begun + t.size ≤ 120 → 120 ≤ σ.begun + n →
  rd n σ = ((σ.xs.length : Int) + t.size - 1, ⟨r, σ.xs ++ t.nodes σ.xs.length, σ.begun + t.size, u.1⟩) := by
 intro t
 induction t with
 | leaf x =>
  intro n σ en u r ok fit hn hl hb hf
  have hu := ZU _ _ _ hn
  simp only [T.groups, Nat.add_zero] at hu
  simp only [T.size] at hb
  obtain ⟨n, rfl⟩ : ∃ m, n = m + 1 := ⟨n - 1, by omega⟩
  obtain ⟨nx, kx⟩ := ok
  have z : (x.kind = 0 ∨ x.kind = 2 ∨ x.kind = 3) → x = ⟨x.kind, 0, 0, 0, 0, 0, 0, 0, 0, 0⟩ := fun hk => by
   have hu := nx
   unfold qY at hu; rw [if_pos hk] at hu; exact of_decide_eq_true hu
  unfold rd
  rw [if_neg (by omega), hl]
  rcases kx with k | k | k | k | k
  ·have e := z (.inl k); rw [k] at e
   simp [text, zC, k, kG, Rd.put, Rd.nx, Rd.tl, hl, T.nodes, T.size, hu, ← e]
  ·have hc := Uz 93 (Zi (bytesOf x.set).data.toList) r (qcz _)
   have jD := qa1 (x := x) fit ⟨nx, .inr (.inl k)⟩ k
   simp [text, zC, k, kG, Rd.put, Rd.nx, Rd.tl, Rd.up, Rd.ahead, hl, T.nodes, T.size, hu, hc, Uy, jD]
  ·have e := z (.inr (.inl k)); rw [k] at e
   simp [text, zC, k, kG, Rd.put, Rd.nx, Rd.tl, hl, T.nodes, T.size, hu, ← e]
  ·have e := z (.inr (.inr k)); rw [k] at e
   simp [text, zC, k, kG, Rd.put, Rd.nx, Rd.tl, hl, T.nodes, T.size, hu, ← e]
  ·have nx' := nx
   unfold qY at nx'
   rw [if_neg (by omega), if_neg (by omega), if_neg (by omega), if_neg (by omega), if_neg (by omega), if_pos k, Bool.and_eq_true] at nx'
   have e := of_decide_eq_true nx'.2
   have hd := qaX nx'.1
   have h19 := Zx nx'.1
   have er : jH (UInt8.ofNat (48 + x.n.toNat) :: r) = x := by
    unfold jH
    rw [List.headD_cons, e]
    simp
    omega
   obtain ⟨c, hc⟩ : ∃ c, c = UInt8.ofNat (48 + x.n.toNat) := ⟨_, rfl⟩
   rw [← hc] at hd er
   simp [text, zC, k, kG, Rd.put, Rd.nx, Rd.tl, hl, T.nodes, T.size, hu, hd, er]
 | two k a b iha ihb =>
  intro n σ en u r ok fit hn hl hb hf
  simp only [num, Option.bind_eq_some_iff] at hn
  obtain ⟨v, hn1, XJ⟩ := hn
  simp only [T.size] at hb
  obtain ⟨n, rfl⟩ : ∃ m, n = m + 1 := ⟨n - 1, by omega⟩
  obtain ⟨hk, oa, ob⟩ := ok
  have s1 := a.size_pos
  have l1 := iha n ⟨text a ++ (text b ++ r), σ.xs, σ.begun + 1, σ.groups⟩ en v (text b ++ r) oa fit.1 hn1 rfl (by simp; omega) (by simp; omega)
  have l2 := ihb n ⟨text b ++ r, σ.xs ++ a.nodes σ.xs.length, σ.begun + 1 + a.size, v.1⟩ v.2 u r ob fit.2 XJ rfl (by simp; omega) (by simp; omega)
  simp only [List.length_append, T.nodes_len] at l2
  have key : ∀ kk : Int, kk = k → kT (rd n) kk ⟨text a ++ (text b ++ r), σ.xs, σ.begun + 1, σ.groups⟩ = ((σ.xs.length : Int) + (T.two k a b).size - 1, ⟨r, σ.xs ++ (T.two k a b).nodes σ.xs.length, σ.begun + (T.two k a b).size, u.1⟩) := fun kk hkk => by
   subst hkk
   unfold kT
   rw [l1, l2]
   simp only [Rd.put, T.nodes, T.size, T.root, List.length_append, T.nodes_len, List.append_assoc]
   refine Prod.ext ?_ ?_
   ·simp; omega
   ·simp
    omega
  unfold rd
  rw [if_neg (by omega), hl]
  rcases hk with rfl | rfl
  ·rw [← key 4 rfl]
   simp [text, kG, Rd.nx, Rd.tl, hl]
  ·rw [← key 5 rfl]
   simp [text, kG, Rd.nx, Rd.tl, hl]
 | times m M t ih =>
  intro n σ en u r ok fit hn hl hb hf
  simp only [T.size] at hb
  obtain ⟨n, rfl⟩ : ∃ m, n = m + 1 := ⟨n - 1, by omega⟩
  obtain ⟨hc, ot⟩ := ok
  have hn' : num t (σ.groups, en) = some u := hn
  have l1 := ih n ⟨text t ++ r, σ.xs, σ.begun + 1, σ.groups⟩ en u r ot fit hn' rfl (by simp; omega) (by simp; omega)
  have XG : (-1 ≤ m ∧ m < 1000) ∧ (-1 ≤ M ∧ M < 1000) := by
   unfold zr at hc
   split at hc
   ·cases hc
   ·have := of_decide_eq_true hc
    omega
  obtain ⟨a1, a2, _⟩ := VZ m XG.1.1 XG.1.2
  obtain ⟨b1, _, b3⟩ := VZ M XG.2.1 XG.2.2
  have c1 := Uz 44 (itoa m) (itoa M ++ 59 :: (text t ++ r)) a2
  have c2 := Uz 59 (itoa M) (text t ++ r) b3
  have key : jd (rd n) ⟨itoa m ++ 44 :: (itoa M ++ 59 :: (text t ++ r)), σ.xs, σ.begun + 1, σ.groups⟩ = ((σ.xs.length : Int) + (T.times m M t).size - 1, ⟨r, σ.xs ++ (T.times m M t).nodes σ.xs.length, σ.begun + (T.times m M t).size, u.1⟩) := by
   unfold jd
   simp only [Rd.up, Rd.ahead, c1, c2, l1, a1, b1]
   simp only [Rd.put, T.nodes, T.size, T.root, List.length_append, T.nodes_len, List.append_assoc]
   refine Prod.ext ?_ ?_
   ·simp; omega
   ·simp
    omega
  unfold rd
  rw [if_neg (by omega), hl, ← key]
  simp [text, kG, Rd.nx, Rd.tl, hl]
 | group k t ih =>
  intro n σ en u r ok fit hn hl hb hf
  simp only [T.size] at hb
  obtain ⟨n, rfl⟩ : ∃ m, n = m + 1 := ⟨n - 1, by omega⟩
  obtain ⟨hc, ot⟩ := ok
  simp only [num] at hn
  split at hn
  ·rename_i hkk
   rw [Option.map_eq_some_iff] at hn
   obtain ⟨v, hv, rfl⟩ := hn
   have hk' : k = (σ.groups : Int) + 1 := hkk
   have l1 := ih n ⟨text t ++ (41 :: r), σ.xs, σ.begun + 1, σ.groups + 1⟩ en v (41 :: r) ot fit hv rfl (by simp; omega) (by simp; omega)
   have key : je (rd n) ⟨text t ++ (41 :: r), σ.xs, σ.begun + 1, σ.groups⟩ = ((σ.xs.length : Int) + (T.group k t).size - 1, ⟨r, σ.xs ++ (T.group k t).nodes σ.xs.length, σ.begun + (T.group k t).size, v.1⟩) := by
    unfold je
    simp only [Rd.grp, l1]
    simp only [Rd.put, Rd.tl, T.nodes, T.size, T.root, List.length_append, T.nodes_len, List.append_assoc]
    refine Prod.ext ?_ ?_
    ·simp; omega
    ·simp
     omega
   unfold rd
   rw [if_neg (by omega), hl, ← key]
   simp [text, kG, Rd.nx, Rd.tl, hl]
  ·cases hn
def qcO : Value → Nat
 | .string s => s.size
 | _ => 0
theorem Q2 (l : List UInt8) : strOfNums (l.map fun c => (c.toNat : Int)) = ⟨l.toArray⟩ := by
 apply ByteArray.ext
 apply Array.ext'
 rw [strOfNums_data, List.map_map]
 have hid : ∀ c : UInt8, UInt8.ofNat ((c.toNat : Int)).toNat = c := fun c => by simp
 simp [Function.comp_def, hid]
theorem QC (c : UInt8) : ∀ l : List UInt8, Lib.indexByte l c + 1 ≤ l.length
 | [] => by simp [Lib.indexByte]
 | b :: l => by
  have := QC c l
  unfold Lib.indexByte
  simp only [List.length_cons]
  split
  ·omega
  ·split <;> omega
theorem Zs (a : UInt8) : Lib.indexByte Qn a ≤ 15 := by
 have := QC a Qn
 have e : Qn.length = 16 := rfl
 omega
theorem qg6 (a : UInt8) (w : World) : Calls prog 116 #[.string ⟨#[48, 49, 50, 51, 52, 53, 54, 55, 56, 57, 97, 98, 99, 100, 101, 102]⟩, .int .u8 (a.toNat : Int)] w fun e w' => e = .returned (.int .i64 (Lib.indexByte Qn a)) ∧ ∃ n, w' = w.drewN n := by
 refine (Tryz.strings_IndexByte ⟨#[48, 49, 50, 51, 52, 53, 54, 55, 56, 57, 97, 98, 99, 100, 101, 102]⟩ (a.toNat : Int) w).mono ?_
 rintro e w' ⟨rfl, rfl⟩
 refine ⟨?_, 0, rfl⟩
 have e1 : ((a.toNat : Int)).toNat.toUInt8 = a := by simp
 rw [e1]
 rfl
theorem qfF (s : List UInt8) (hs : s.length < 4294967281) (w : World) :
  Calls prog 86 #[.string ⟨s.toArray⟩] w fun e w' => e = .returned (.string ⟨(unhex s).toArray⟩) ∧ Below w.heap.size w w' := by
 obtain ⟨i0, hi, QX, kF, vv⟩ := info_parts Jz
 go_enter func86, ntmps86
 go_wp2
 go_loopw [0, 3] (fun sv v wr => ∃ (pre rest : List UInt8) (v' : Value), v = v' ∧ sv = .string ⟨rest.toArray⟩ ∧ unhex s = pre ++ unhex rest ∧ 2 * pre.length + rest.length ≤ s.length ∧ wr.ownsRow w.heap.size 5 1 v' pre.length ((pre.map fun c => (c.toNat : Int)).map (Value.int .u8)) ∧ Below w.heap.size w wr) (fun sv _ _ => qcO sv)
 case atStart => exact ⟨[], s, _, rfl, rfl, rfl, by simp, World.ownsRow_nil _ _ _ _, Below.refl _ _⟩
 case round =>
  obtain ⟨pre, rest, v, rfl, rfl, hu, hl, zq, hB⟩ := hrel
  obtain _ | ⟨a, _ | ⟨b, t⟩⟩ := rest
  ·
   have hcv := jn zq
   rw [Q2] at hcv
   have qJ : unhex s = pre := by rw [hu]; simp [unhex]
   go_wp2
   go_ret
   exact ⟨by rw [qJ]; rfl, hB⟩
  ·
   have hcv := jn zq
   rw [Q2] at hcv
   have qJ : unhex s = pre := by rw [hu]; simp [unhex]
   go_wp2
   go_ret
   exact ⟨by rw [qJ]; rfl, hB⟩
  ·
   have hna : ∀ w, (Instr.index 9 (.string ⟨(a :: b :: t).toArray⟩) (.int .i64 0)).run prog w = .ok (.int .u8 (a.toNat : Int)) w := fun w => by
    rw [run_index_string (P := prog) w 9 _ .i64 0 underlying9, dif_pos ⟨by omega, by simp [ByteArray.size]; try omega⟩]
    rfl
   have hnb : ∀ w, (Instr.index 9 (.string ⟨(a :: b :: t).toArray⟩) (.int .i64 1)).run prog w = .ok (.int .u8 (b.toNat : Int)) w := fun w => by
    rw [run_index_string (P := prog) w 9 _ .i64 1 underlying9, dif_pos ⟨by omega, by simp [ByteArray.size]; try omega⟩]
    rfl
   have HA := ξ fun w => qg6 a w
   have HB := ξ fun w => qg6 b w
   go_wp2_with fail
   go_quiet (first | refine Calls.quiet_of (HA.out _) | refine Calls.quiet_of (HB.out _))
   clear HA HB hna hnb
   by_cases hia : 0 ≤ Lib.indexByte Qn a
   ·by_cases hib : 0 ≤ Lib.indexByte Qn b
    ·have hun : unhex s = pre ++ UInt8.ofNat ((Lib.indexByte Qn a).toNat * 16 + (Lib.indexByte Qn b).toNat) :: unhex t := by rw [hu, unhex, if_pos ⟨hia, hib⟩]
     obtain ⟨p, hp⟩ : ∃ p : Nat, Lib.indexByte Qn a = p := ⟨_, (Int.toNat_of_nonneg hia).symm⟩
     obtain ⟨q, hq⟩ : ∃ q : Nat, Lib.indexByte Qn b = q := ⟨_, (Int.toNat_of_nonneg hib).symm⟩
     have hp9 := Zs a
     have hq9 := Zs b
     rw [hp] at hun hp9 ⊢
     rw [hq] at hun hq9 ⊢
     have yt : IntKind.i64.wrap ((p : Int) * 16) = (p : Int) * 16 := by simp [IntKind.wrap, IntKind.signed, IntKind.bits]; omega
     have Kn : IntKind.i64.wrap ((p : Int) * 16 + q) = (p : Int) * 16 + q := by simp [IntKind.wrap, IntKind.signed, IntKind.bits]; omega
     have YN : IntKind.u8.wrap ((p : Int) * 16 + q) = (p : Int) * 16 + q := by simp [IntKind.wrap, IntKind.signed, IntKind.bits]; omega
     have hn1 : ((p : Int) < 0) = False := by simp
     have XJ : ((q : Int) < 0) = False := by simp
     have hq1 : (wr.drewN nq).ownsRow w.heap.size 5 1 u3 pre.length ((pre.map fun c => (c.toNat : Int)).map (Value.int .u8)) := zq
     have kR := hB.size
     simp only [List.length_cons] at hl
     have hBq : Below w.heap.size w (wr.drewN nq) := Go.below_drewN hB _
     go_wp2_with (at_builtin; refine wpList_append_own _ rfl _ _ 118 rfl w.heap.size 5 i0 (.int .u8 0) 1 1 underlying118 hi QX kF vv rfl (by decide) _ _ _ rfl (hq1.alloc _) ⟨wr.heap.size, 0, none⟩ 1 1 [.int .u8 ((p : Int) * 16 + q)] rfl rfl (cell_one_new _ _ _) (by simp [Value.oneCell']) (by unfold maxLen; omega) (by omega) (by simp; omega) ?_)
     intro v' w1 hown1 hgrow1 hnil1
     have qr : Below w.heap.size w w1 := (hBq.alloc (by simp; omega) _).grown hgrow1 (by simp; omega) (fun k hk => qcm hq1 hk)
     have hext : (⟨(a :: b :: t).toArray⟩ : ByteArray).extract 2 (t.length + 1 + 1) = ⟨t.toArray⟩ := by
      apply ByteArray.ext
      apply Array.ext'
      simp [ByteArray.data_extract]
     have hxn : (UInt8.ofNat ((p : Int).toNat * 16 + (q : Int).toNat)).toNat = p * 16 + q := by
      simp
      omega
     go_wp2
     go_roundw
     case rel =>
      refine ⟨pre ++ [UInt8.ofNat ((p : Int).toNat * 16 + (q : Int).toNat)], t, _, rfl, rfl, by rw [hun]; simp, by simp; omega, ?_, qr⟩
      rw [List.map_append, List.map_append, List.length_append]
      simp only [List.map_cons, List.map_nil, hxn]
      simpa [Function.comp_def] using hown1
     case measure =>
      simp [qcO, ByteArray.size]
      try omega
    ·have qJ : unhex s = pre := by rw [hu, unhex, if_neg (fun h => hib h.2), List.append_nil]
     have hu0 := hu
     clear hu
     have hcv := jn (show World.ownsRow (wr.drewN nq) w.heap.size 5 1 _ _ _ from zq)
     rw [Q2] at hcv
     have hn1 : (Lib.indexByte Qn a < 0) = False := by simp; omega
     have XJ : (Lib.indexByte Qn b < 0) = True := by simp; omega
     go_wp2
     go_ret
     exact ⟨by first | rfl | (rw [qJ]; rfl) | (rw [← hu0, qJ]; rfl), Go.below_drewN hB _⟩
   ·have qJ : unhex s = pre := by rw [hu, unhex, if_neg (fun h => hia h.1), List.append_nil]
    have hu0 := hu
    clear hu
    have hcv := jn (show World.ownsRow (wr.drewN nq) w.heap.size 5 1 _ _ _ from zq)
    rw [Q2] at hcv
    have hn1 : (Lib.indexByte Qn a < 0) = True := by simp; omega
    go_wp2
    go_ret
    exact ⟨by first | rfl | (rw [qJ]; rfl) | (rw [← hu0, qJ]; rfl), Go.below_drewN hB _⟩
end Go.Proofs.YtjgegohidhdbpaaGreatDoor
