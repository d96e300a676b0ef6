/- Of no program but for atoiNum: what read reads of any text, as a function. -/
import Derived.Test.YtgllmhheahlpjaaGreatDoorJRxW
import Derived.Test.YtgllmhheahlpjaaGreatDoorJRxU
import Derived.Lib.AtoiAllCases
import Derived.BigQuiet
set_option linter.unusedVariables false
set_option linter.unusedSimpArgs false
set_option maxRecDepth 100000
set_option maxHeartbeats 40000000
namespace Go.Proofs.YtgllmhheahlpjaaGreatDoor
open Go.RowKit Go.Lib
structure Rd where
 left : List UInt8
 xs : List Nd
 begun : Nat
 groups : Nat
def Rd.put (σ : Rd) (x : Nd) : Int × Rd := ((σ.xs.length : Int), ⟨σ.left, σ.xs ++ [x], σ.begun, σ.groups⟩)
def bytesNd (l : List UInt8) : Nd := ⟨1, wd (inS ⟨l.toArray⟩ l.length) 0, wd (inS ⟨l.toArray⟩ l.length) 1, wd (inS ⟨l.toArray⟩ l.length) 2, wd (inS ⟨l.toArray⟩ l.length) 3, 0, 0, 0, 0, 0⟩
def refNd (l : List UInt8) : Nd := ⟨8, 0, 0, 0, 0, 0, 0, 0, 0, ((l.headD 0).toNat : Int) - 48⟩
def Rd.up (σ : Rd) (e : UInt8) : Rd := ⟨(Lib.cut σ.left [e]).2.1, σ.xs, σ.begun, σ.groups⟩
def Rd.ahead (σ : Rd) (e : UInt8) : List UInt8 := (Lib.cut σ.left [e]).1
def Rd.tl (σ : Rd) : Rd := ⟨σ.left.tail, σ.xs, σ.begun, σ.groups⟩
def Rd.grp (σ : Rd) : Rd := ⟨σ.left, σ.xs, σ.begun, σ.groups + 1⟩
def rdTwo (f : Rd → Int × Rd) (k : Int) (σ : Rd) : Int × Rd := (f (f σ).2).2.put ⟨k, 0, 0, 0, 0, (f σ).1, (f (f σ).2).1, 0, 0, 0⟩
def rdTimes (f : Rd → Int × Rd) (σ : Rd) : Int × Rd := (f ((σ.up 44).up 59)).2.put ⟨6, 0, 0, 0, 0, (f ((σ.up 44).up 59)).1, 0, atoiNum (σ.ahead 44), atoiNum ((σ.up 44).ahead 59), 0⟩
def rdGroup (f : Rd → Int × Rd) (σ : Rd) : Int × Rd := (f σ.grp).2.tl.put ⟨7, 0, 0, 0, 0, (f σ.grp).1, 0, 0, 0, (σ.groups : Int) + 1⟩
def rdNode (f : Rd → Int × Rd) (c : UInt8) (σ : Rd) : Int × Rd :=
 if c = 101 then σ.put ⟨0, 0, 0, 0, 0, 0, 0, 0, 0, 0⟩
 else if c = 91 then (σ.up 93).put (bytesNd (unhex (σ.ahead 93)))
 else if c = 94 then σ.put ⟨2, 0, 0, 0, 0, 0, 0, 0, 0, 0⟩
 else if c = 36 then σ.put ⟨3, 0, 0, 0, 0, 0, 0, 0, 0, 0⟩
 else if c = 38 then rdTwo f 4 σ
 else if c = 124 then rdTwo f 5 σ
 else if c = 42 then rdTimes f σ
 else if c = 40 then rdGroup f σ
 else if c = 92 then σ.tl.put (refNd σ.left)
 else (0, σ)
def Rd.nx (σ : Rd) : Rd := ⟨σ.left, σ.xs, σ.begun + 1, σ.groups⟩
def rd : Nat → Rd → Int × Rd
 | 0, σ => (0, σ.nx)
 | n + 1, σ => if 120 < σ.begun + 1 then (0, σ.nx) else match σ.left with
  | [] => (0, σ.nx)
  | c :: l => rdNode (rd n) c σ.nx.tl
structure Goes (σ τ : Rd) : Prop where
 b : σ.begun ≤ τ.begun
 g : σ.groups ≤ τ.groups
 x : σ.xs.length ≤ τ.xs.length
 l : τ.left.length ≤ σ.left.length
theorem Goes.refl (σ : Rd) : Goes σ σ := ⟨Nat.le_refl _, Nat.le_refl _, Nat.le_refl _, Nat.le_refl _⟩
theorem Goes.trans {σ τ υ : Rd} (h : Goes σ τ) (h' : Goes τ υ) : Goes σ υ := ⟨Nat.le_trans h.b h'.b, Nat.le_trans h.g h'.g, Nat.le_trans h.x h'.x, Nat.le_trans h'.l h.l⟩
theorem Goes.put (σ : Rd) (x : Nd) : Goes σ (σ.put x).2 := ⟨Nat.le_refl _, Nat.le_refl _, by simp [Rd.put], Nat.le_refl _⟩
theorem Goes.up (σ : Rd) (e : UInt8) : Goes σ (σ.up e) := ⟨Nat.le_refl _, Nat.le_refl _, Nat.le_refl _, (cut_len _ _).2⟩
theorem Goes.tl (σ : Rd) : Goes σ σ.tl := ⟨Nat.le_refl _, Nat.le_refl _, Nat.le_refl _, by simp [Rd.tl]⟩
theorem Goes.grp (σ : Rd) : Goes σ σ.grp := ⟨Nat.le_refl _, by simp [Rd.grp], Nat.le_refl _, Nat.le_refl _⟩
theorem Goes.nx (σ : Rd) : Goes σ σ.nx := ⟨by simp [Rd.nx], Nat.le_refl _, Nat.le_refl _, Nat.le_refl _⟩
theorem rdNode_goes (f : Rd → Int × Rd) (hf : ∀ σ, Goes σ (f σ).2) (c : UInt8) (σ : Rd) : Goes σ (rdNode f c σ).2 := by
 unfold rdNode
 repeat' split
 ·exact .put _ _
 ·exact (Goes.up _ _).trans (.put _ _)
 ·exact .put _ _
 ·exact .put _ _
 ·exact ((hf _).trans (hf _)).trans (.put _ _)
 ·exact ((hf _).trans (hf _)).trans (.put _ _)
 ·exact (((Goes.up _ _).trans (.up _ _)).trans (hf _)).trans (.put _ _)
 ·exact (((Goes.grp _).trans (hf _)).trans (.tl _)).trans (.put _ _)
 ·exact (Goes.tl _).trans (.put _ _)
 ·exact .refl _
theorem rd_goes' : ∀ (n : Nat) (σ : Rd), Goes σ.nx (rd n σ).2
 | 0, σ => .refl _
 | n + 1, σ => by
  have ih : ∀ σ, Goes σ (rd n σ).2 := fun σ => (Goes.nx σ).trans (rd_goes' n σ)
  unfold rd
  split
  ·exact .refl _
  ·split
   ·exact .refl _
   ·exact (Goes.tl _).trans (rdNode_goes _ ih _ _)
theorem rd_goes (n : Nat) (σ : Rd) : Goes σ (rd n σ).2 := (Goes.nx σ).trans (rd_goes' n σ)
structure Few (σ τ : Rd) (j : Nat) : Prop where
 x : τ.xs.length + min σ.begun 120 ≤ σ.xs.length + min τ.begun 120
 g : τ.groups + min σ.begun 120 ≤ σ.groups + min τ.begun 120
 b : τ.begun + 2 * min σ.begun 120 ≤ σ.begun + 2 * min τ.begun 120 + j
theorem rd_few : ∀ (n : Nat) (σ : Rd), 120 ≤ σ.begun + n → Few σ (rd n σ).2 1
 | 0, σ, h => ⟨by simp [rd, Rd.nx]; omega, by simp [rd, Rd.nx]; omega, by simp [rd, Rd.nx]; omega⟩
 | n + 1, σ, h => by
  unfold rd
  split
  ·exact ⟨by simp [Rd.nx]; omega, by simp [Rd.nx]; omega, by simp [Rd.nx]; omega⟩
  ·rename_i hlt
   split
   ·exact ⟨by simp [Rd.nx]; omega, by simp [Rd.nx]; omega, by simp [Rd.nx]; omega⟩
   ·rename_i c l _
    have ih := fun σ' (h' : σ.begun + 1 ≤ σ'.begun) => rd_few n σ' (by omega)
    have hb := fun σ' => (rd_goes n σ').b
    have e : (σ.nx.tl).begun = σ.begun + 1 := rfl
    have e1 : (σ.nx.tl).xs = σ.xs := rfl
    have e2 : (σ.nx.tl).groups = σ.groups := rfl
    generalize σ.nx.tl = τ at *
    have two : ∀ k, Few σ (rdTwo (rd n) k τ).2 1 := fun k => by
     have i1 := ih τ (by omega)
     have b1 := hb τ
     unfold rdTwo
     generalize rd n τ = u at *
     have i2 := ih u.2 (by omega)
     have b2 := hb u.2
     generalize rd n u.2 = v at *
     obtain ⟨x1, g1, b1'⟩ := i1
     obtain ⟨x2, g2, b2'⟩ := i2
     rw [e1] at x1
     rw [e2] at g1
     exact ⟨by simp [Rd.put]; omega, by simp [Rd.put]; omega, by simp [Rd.put]; omega⟩
    unfold rdNode
    repeat' split
    ·exact ⟨by simp [Rd.put, e1]; omega, by simp [Rd.put, e2]; omega, by simp [Rd.put]; omega⟩
    ·exact ⟨by simp [Rd.put, Rd.up, e1]; omega, by simp [Rd.put, Rd.up, e2]; omega, by simp [Rd.put, Rd.up]; omega⟩
    ·exact ⟨by simp [Rd.put, e1]; omega, by simp [Rd.put, e2]; omega, by simp [Rd.put]; omega⟩
    ·exact ⟨by simp [Rd.put, e1]; omega, by simp [Rd.put, e2]; omega, by simp [Rd.put]; omega⟩
    ·exact two 4
    ·exact two 5
    ·unfold rdTimes
     have i1 := ih ((τ.up 44).up 59) (by simp [Rd.up]; omega)
     have b1 := hb ((τ.up 44).up 59)
     have f0 : ((τ.up 44).up 59).begun = τ.begun := rfl
     have f1 : ((τ.up 44).up 59).xs = τ.xs := rfl
     have f2 : ((τ.up 44).up 59).groups = τ.groups := rfl
     generalize rd n ((τ.up 44).up 59) = u at *
     obtain ⟨x1, g1, b1'⟩ := i1
     rw [f1, e1] at x1
     exact ⟨by simp [Rd.put]; omega, by simp [Rd.put]; omega, by simp [Rd.put]; omega⟩
    ·unfold rdGroup
     have i1 := ih τ.grp (by simp [Rd.grp]; omega)
     have b1 := hb τ.grp
     have f0 : τ.grp.begun = τ.begun := rfl
     have f1 : τ.grp.xs = τ.xs := rfl
     have f2 : τ.grp.groups = τ.groups + 1 := rfl
     generalize rd n τ.grp = u at *
     obtain ⟨x1, g1, b1'⟩ := i1
     rw [f1, e1] at x1
     exact ⟨by simp [Rd.put, Rd.tl]; omega, by simp [Rd.put, Rd.tl]; omega, by simp [Rd.put, Rd.tl]; omega⟩
    ·exact ⟨by simp [Rd.put, Rd.tl, e1]; omega, by simp [Rd.put, Rd.tl, e2]; omega, by simp [Rd.put, Rd.tl]; omega⟩
    ·exact ⟨by show τ.xs.length + _ ≤ _ + min τ.begun 120; rw [e1]; omega, by show τ.groups + _ ≤ _ + min τ.begun 120; rw [e2]; omega, by show τ.begun + _ ≤ _ + 2 * min τ.begun 120 + 1; omega⟩
theorem atoiNum_bounds (l : List UInt8) : -9223372036854775808 ≤ atoiNum l ∧ atoiNum l ≤ 9223372036854775807 := by
 unfold atoiNum
 split
 ·rename_i v hv
  exact atoiAll_bounds hv
 ·exact atoiSat_bounds l
 ·omega
theorem bytesNd_fits (l : List UInt8) : (bytesNd l).Fits := ⟨by simp [bytesNd], wd_lt _ _, wd_lt _ _, wd_lt _ _, wd_lt _ _, by simp [bytesNd], by simp [bytesNd], by simp [bytesNd], by simp [bytesNd], by simp [bytesNd]⟩
theorem refNd_fits (l : List UInt8) : (refNd l).Fits := by
 have h := (l.headD 0).toNat_lt
 exact ⟨by simp [refNd], by simp [refNd], by simp [refNd], by simp [refNd], by simp [refNd], by simp [refNd], by simp [refNd], by simp [refNd], by simp [refNd], by simp only [refNd]; omega⟩
def AllFit (σ : Rd) : Prop := ∀ x ∈ σ.xs, x.Fits
theorem AllFit.put {σ : Rd} (h : AllFit σ) {x : Nd} (hx : x.Fits) : AllFit (σ.put x).2 := fun y hy => by
 have hy' : y ∈ σ.xs ++ [x] := hy
 rcases List.mem_append.1 hy' with h1 | h1
 ·exact h y h1
 ·rw [List.mem_singleton.1 h1]; exact hx
theorem rd_fits : ∀ (n : Nat) (σ : Rd), AllFit σ → (rd n σ).2.xs.length ≤ 1000 → (rd n σ).2.groups ≤ 1000 → AllFit (rd n σ).2 ∧ 0 ≤ (rd n σ).1 ∧ (rd n σ).1 ≤ 1000
 | 0, σ, h => fun _ _ => ⟨h, by simp [rd], by simp [rd]⟩
 | n + 1, σ, h => by
  unfold rd
  split
  ·exact fun _ _ => ⟨h, by simp, by simp⟩
  ·split
   ·exact fun _ _ => ⟨h, by simp, by simp⟩
   ·have ih := rd_fits n
    have hg := rd_goes n
    have h1 : AllFit σ.nx.tl := h
    generalize σ.nx.tl = τ at *
    have sm : ∀ k : Int, 0 ≤ k → k ≤ 8 → (⟨k, 0, 0, 0, 0, 0, 0, 0, 0, 0⟩ : Nd).Fits := fun k a b => ⟨⟨by simp; omega, by simp; omega⟩, by simp, by simp, by simp, by simp, by simp, by simp, by simp, by simp, by simp⟩
    have two : ∀ k : Int, 0 ≤ k → k ≤ 8 → (rdTwo (rd n) k τ).2.xs.length ≤ 1000 → (rdTwo (rd n) k τ).2.groups ≤ 1000 → AllFit (rdTwo (rd n) k τ).2 ∧ 0 ≤ (rdTwo (rd n) k τ).1 ∧ (rdTwo (rd n) k τ).1 ≤ 1000 := fun k k0 k8 l1 l2 => by
     unfold rdTwo at l1 l2 ⊢
     have g2 := hg (rd n τ).2
     have q := (Goes.put (rd n (rd n τ).2).2 ⟨k, 0, 0, 0, 0, (rd n τ).1, (rd n (rd n τ).2).1, 0, 0, 0⟩)
     have qx := q.x; have qg := q.g; have gx := g2.x; have gg := g2.g
     obtain ⟨f1, r1, r2⟩ := ih τ h1 (by omega) (by omega)
     obtain ⟨f2, r3, r4⟩ := ih _ f1 (by omega) (by omega)
     refine ⟨f2.put ⟨⟨by simp; omega, by simp; omega⟩, by simp, by simp, by simp, by simp, ⟨by simp; omega, by simp; omega⟩, ⟨by simp; omega, by simp; omega⟩, by simp, by simp, by simp⟩, ?_, ?_⟩
     ·simp [Rd.put]
     ·simp [Rd.put] at l1 ⊢; omega
    unfold rdNode
    split
    ·exact fun l1 l2 => ⟨h1.put (sm 0 (by omega) (by omega)), by simp [Rd.put], by simp [Rd.put] at l1 ⊢; omega⟩
    split
    ·exact fun l1 l2 => ⟨AllFit.put (σ := τ.up 93) h1 (bytesNd_fits _), by simp [Rd.put], by simp [Rd.put] at l1 ⊢; omega⟩
    split
    ·exact fun l1 l2 => ⟨h1.put (sm 2 (by omega) (by omega)), by simp [Rd.put], by simp [Rd.put] at l1 ⊢; omega⟩
    split
    ·exact fun l1 l2 => ⟨h1.put (sm 3 (by omega) (by omega)), by simp [Rd.put], by simp [Rd.put] at l1 ⊢; omega⟩
    split
    ·exact two 4 (by omega) (by omega)
    split
    ·exact two 5 (by omega) (by omega)
    split
    ·intro l1 l2
     unfold rdTimes at l1 l2 ⊢
     have q := (Goes.put (rd n ((τ.up 44).up 59)).2 ⟨6, 0, 0, 0, 0, (rd n ((τ.up 44).up 59)).1, 0, atoiNum (τ.ahead 44), atoiNum ((τ.up 44).ahead 59), 0⟩)
     have qx := q.x; have qg := q.g
     obtain ⟨f1, r1, r2⟩ := ih ((τ.up 44).up 59) h1 (by omega) (by omega)
     refine ⟨f1.put ⟨by simp, by simp, by simp, by simp, by simp, ⟨by simp; omega, by simp; omega⟩, by simp, atoiNum_bounds _, atoiNum_bounds _, by simp⟩, ?_, ?_⟩
     ·simp [Rd.put]
     ·simp [Rd.put] at l1 ⊢; omega
    split
    ·intro l1 l2
     unfold rdGroup at l1 l2 ⊢
     have q := (Goes.put (rd n τ.grp).2.tl ⟨7, 0, 0, 0, 0, (rd n τ.grp).1, 0, 0, 0, (τ.groups : Int) + 1⟩)
     have gx := (hg τ.grp).g
     have e2 : τ.grp.groups = τ.groups + 1 := rfl
     have qx := q.x; have qg := q.g
     have e3 : (rd n τ.grp).2.tl.groups = (rd n τ.grp).2.groups := rfl
     have e4 : (rd n τ.grp).2.tl.xs = (rd n τ.grp).2.xs := rfl
     rw [e4] at qx
     obtain ⟨f1, r1, r2⟩ := ih τ.grp h1 (by omega) (by omega)
     refine ⟨AllFit.put (σ := (rd n τ.grp).2.tl) f1 ⟨by simp, by simp, by simp, by simp, by simp, ⟨by simp; omega, by simp; omega⟩, by simp, by simp, by simp, ⟨by simp; omega, by simp; omega⟩⟩, ?_, ?_⟩
     ·simp [Rd.put]
     ·simp [Rd.put] at l1 ⊢; omega
    split
    ·exact fun l1 l2 => ⟨AllFit.put (σ := τ.tl) h1 (refNd_fits _), by simp [Rd.put], by simp [Rd.put] at l1 ⊢; omega⟩
    ·exact fun l1 l2 => ⟨h1, by simp, by simp⟩
def T.nodes : T → Nat → List Nd
 | .leaf x, _ => [x]
 | .two k a b, o => a.nodes o ++ (b.nodes (o + a.size) ++ [T.root (.two k a b) o])
 | .times m M t, o => t.nodes o ++ [T.root (.times m M t) o]
 | .group n t, o => t.nodes o ++ [T.root (.group n t) o]
theorem T.nodes_len : ∀ (t : T) (o : Nat), (t.nodes o).length = t.size
 | .leaf x, o => rfl
 | .two k a b, o => by simp [T.nodes, T.size, T.nodes_len a, T.nodes_len b]; omega
 | .times m M t, o => by simp [T.nodes, T.size, T.nodes_len t]
 | .group n t, o => by simp [T.nodes, T.size, T.nodes_len t]
theorem T.At.nodes {l : Nat → Option Nd} : ∀ (t : T) (o : Nat), T.At l t o → ∀ i, i < t.size → l (o + i) = (t.nodes o)[i]?
 | .leaf x, o, h, i, hi => by
  simp only [T.size] at hi
  obtain rfl : i = 0 := by omega
  exact h
 | .two k a b, o, ⟨h1, h2, h3⟩, i, hi => by
  simp only [T.size] at hi
  simp only [T.nodes]
  rcases Nat.lt_or_ge i a.size with c | c
  ·rw [List.getElem?_append_left (by rw [T.nodes_len]; exact c)]
   exact T.At.nodes a o h1 i c
  ·rw [List.getElem?_append_right (by rw [T.nodes_len]; exact c), T.nodes_len]
   rcases Nat.lt_or_ge (i - a.size) b.size with d | d
   ·rw [List.getElem?_append_left (by rw [T.nodes_len]; exact d), ← T.At.nodes b _ h2 _ d]
    congr 1; omega
   ·rw [List.getElem?_append_right (by rw [T.nodes_len]; exact d), T.nodes_len]
    have e : i - a.size - b.size = 0 := by omega
    rw [e, show o + i = o + a.size + b.size by omega, h3]
    rfl
 | .times m M t, o, ⟨h1, h3⟩, i, hi => by
  simp only [T.size] at hi
  simp only [T.nodes]
  rcases Nat.lt_or_ge i t.size with c | c
  ·rw [List.getElem?_append_left (by rw [T.nodes_len]; exact c)]
   exact T.At.nodes t o h1 i c
  ·rw [List.getElem?_append_right (by rw [T.nodes_len]; exact c), T.nodes_len]
   have e : i - t.size = 0 := by omega
   rw [e, show o + i = o + t.size by omega, h3]
   rfl
 | .group n t, o, ⟨h1, h3⟩, i, hi => by
  simp only [T.size] at hi
  simp only [T.nodes]
  rcases Nat.lt_or_ge i t.size with c | c
  ·rw [List.getElem?_append_left (by rw [T.nodes_len]; exact c)]
   exact T.At.nodes t o h1 i c
  ·rw [List.getElem?_append_right (by rw [T.nodes_len]; exact c), T.nodes_len]
   have e : i - t.size = 0 := by omega
   rw [e, show o + i = o + t.size by omega, h3]
   rfl
theorem IsPat.nodes {xs : List Nd} {t : T} (h : IsPat xs t) : xs = t.nodes 0 := by
 obtain ⟨_, ha, hs, _⟩ := h
 apply List.ext_getElem?
 intro i
 rcases Nat.lt_or_ge i t.size with c | c
 ·have := T.At.nodes t 0 ha i c
  rw [Nat.zero_add] at this
  exact this
 ·rw [List.getElem?_eq_none (by omega), List.getElem?_eq_none (by rw [T.nodes_len]; exact c)]
theorem unit_read {x : Nd} (hx : x.Fits) (ox : T.Ok (.leaf x)) (hk : x.kind = 1) : bytesNd (bytesOf x.set).data.toList = x := by
 obtain ⟨nx, _⟩ := ox
 unfold isNd at nx
 rw [if_neg (by omega), if_pos hk, Bool.and_eq_true] at nx
 have e := of_decide_eq_true nx.2
 obtain ⟨a0, a1, a2, a3⟩ := ofWords_wd hx.s0 hx.s1 hx.s2 hx.s3
 have e2 : (⟨(bytesOf x.set).data.toList.toArray⟩ : ByteArray) = bytesOf x.set := rfl
 have e3 : (bytesOf x.set).data.toList.length = (bytesOf x.set).size := by simp
 have hw : ∀ k, k < 4 → wd (inS (bytesOf x.set) (bytesOf x.set).size) k = wd x.set k := fun k hk => wd_congr hk fun i hi => inS_bytesOf x.set i hi
 unfold bytesNd
 rw [e2, e3, hw 0 (by omega), hw 1 (by omega), hw 2 (by omega), hw 3 (by omega)]
 rw [show wd x.set 0 = x.w0 from a0, show wd x.set 1 = x.w1 from a1, show wd x.set 2 = x.w2 from a2, show wd x.set 3 = x.w3 from a3]
 exact e.symm
theorem rd_text : ∀ (t : T) (n : Nat) (σ : Rd) (en : Nat → Bool) (u : Nat × (Nat → Bool)) (r : List UInt8), t.Ok → TFits t → num t (σ.groups, en) = some u → σ.left = text t ++ r → σ.begun + t.size ≤ 120 → 120 ≤ σ.begun + n →
  rd n σ = ((σ.xs.length : Int) + t.size - 1, ⟨r, σ.xs ++ t.nodes σ.xs.length, σ.begun + t.size, u.1⟩) := by
 intro t
 induction t with
 | leaf x =>
  intro n σ en u r ok fit hn hl hb hf
  have hu := num_fst _ _ _ hn
  simp only [T.groups, Nat.add_zero] at hu
  simp only [T.size] at hb
  obtain ⟨n, rfl⟩ : ∃ m, n = m + 1 := ⟨n - 1, by omega⟩
  obtain ⟨nx, kx⟩ := ok
  have z : (x.kind = 0 ∨ x.kind = 2 ∨ x.kind = 3) → x = ⟨x.kind, 0, 0, 0, 0, 0, 0, 0, 0, 0⟩ := fun hk => by
   have hu := nx
   unfold isNd at hu; rw [if_pos hk] at hu; exact of_decide_eq_true hu
  unfold rd
  rw [if_neg (by omega), hl]
  rcases kx with k | k | k | k | k
  ·have e := z (.inl k); rw [k] at e
   simp [text, leafText, k, rdNode, Rd.put, Rd.nx, Rd.tl, hl, T.nodes, T.size, hu, ← e]
  ·have hc := cut_at 93 (hexl (bytesOf x.set).data.toList) r (hexl_mem _)
   have hb2 := unit_read (x := x) fit ⟨nx, .inr (.inl k)⟩ k
   simp [text, leafText, k, rdNode, Rd.put, Rd.nx, Rd.tl, Rd.up, Rd.ahead, hl, T.nodes, T.size, hu, hc, unhex_hexl, hb2]
  ·have e := z (.inr (.inl k)); rw [k] at e
   simp [text, leafText, k, rdNode, Rd.put, Rd.nx, Rd.tl, hl, T.nodes, T.size, hu, ← e]
  ·have e := z (.inr (.inr k)); rw [k] at e
   simp [text, leafText, k, rdNode, Rd.put, Rd.nx, Rd.tl, hl, T.nodes, T.size, hu, ← e]
  ·have nx' := nx
   unfold isNd at nx'
   rw [if_neg (by omega), if_neg (by omega), if_neg (by omega), if_neg (by omega), if_neg (by omega), if_pos k, Bool.and_eq_true] at nx'
   have e := of_decide_eq_true nx'.2
   have hd := digit_one nx'.1
   have h19 := num_of nx'.1
   have er : refNd (UInt8.ofNat (48 + x.n.toNat) :: r) = x := by
    unfold refNd
    rw [List.headD_cons, e]
    simp
    omega
   obtain ⟨c, hc⟩ : ∃ c, c = UInt8.ofNat (48 + x.n.toNat) := ⟨_, rfl⟩
   rw [← hc] at hd er
   simp [text, leafText, k, rdNode, Rd.put, Rd.nx, Rd.tl, hl, T.nodes, T.size, hu, hd, er]
 | two k a b iha ihb =>
  intro n σ en u r ok fit hn hl hb hf
  simp only [num, Option.bind_eq_some_iff] at hn
  obtain ⟨v, hn1, hn2⟩ := hn
  simp only [T.size] at hb
  obtain ⟨n, rfl⟩ : ∃ m, n = m + 1 := ⟨n - 1, by omega⟩
  obtain ⟨hk, oa, ob⟩ := ok
  have s1 := a.size_pos
  have l1 := iha n ⟨text a ++ (text b ++ r), σ.xs, σ.begun + 1, σ.groups⟩ en v (text b ++ r) oa fit.1 hn1 rfl (by simp; omega) (by simp; omega)
  have l2 := ihb n ⟨text b ++ r, σ.xs ++ a.nodes σ.xs.length, σ.begun + 1 + a.size, v.1⟩ v.2 u r ob fit.2 hn2 rfl (by simp; omega) (by simp; omega)
  simp only [List.length_append, T.nodes_len] at l2
  have key : ∀ kk : Int, kk = k → rdTwo (rd n) kk ⟨text a ++ (text b ++ r), σ.xs, σ.begun + 1, σ.groups⟩ = ((σ.xs.length : Int) + (T.two k a b).size - 1, ⟨r, σ.xs ++ (T.two k a b).nodes σ.xs.length, σ.begun + (T.two k a b).size, u.1⟩) := fun kk hkk => by
   subst hkk
   unfold rdTwo
   rw [l1, l2]
   simp only [Rd.put, T.nodes, T.size, T.root, List.length_append, T.nodes_len, List.append_assoc]
   refine Prod.ext ?_ ?_
   ·simp; omega
   ·simp
    omega
  unfold rd
  rw [if_neg (by omega), hl]
  rcases hk with rfl | rfl
  ·rw [← key 4 rfl]
   simp [text, rdNode, Rd.nx, Rd.tl, hl]
  ·rw [← key 5 rfl]
   simp [text, rdNode, Rd.nx, Rd.tl, hl]
 | times m M t ih =>
  intro n σ en u r ok fit hn hl hb hf
  simp only [T.size] at hb
  obtain ⟨n, rfl⟩ : ∃ m, n = m + 1 := ⟨n - 1, by omega⟩
  obtain ⟨hc, ot⟩ := ok
  have hn' : num t (σ.groups, en) = some u := hn
  have l1 := ih n ⟨text t ++ r, σ.xs, σ.begun + 1, σ.groups⟩ en u r ot fit hn' rfl (by simp; omega) (by simp; omega)
  have hcn : (-1 ≤ m ∧ m < 1000) ∧ (-1 ≤ M ∧ M < 1000) := by
   unfold isCnt at hc
   split at hc
   ·cases hc
   ·have := of_decide_eq_true hc
    omega
  obtain ⟨a1, a2, _⟩ := atoi_itoa m hcn.1.1 hcn.1.2
  obtain ⟨b1, _, b3⟩ := atoi_itoa M hcn.2.1 hcn.2.2
  have c1 := cut_at 44 (itoa m) (itoa M ++ 59 :: (text t ++ r)) a2
  have c2 := cut_at 59 (itoa M) (text t ++ r) b3
  have key : rdTimes (rd n) ⟨itoa m ++ 44 :: (itoa M ++ 59 :: (text t ++ r)), σ.xs, σ.begun + 1, σ.groups⟩ = ((σ.xs.length : Int) + (T.times m M t).size - 1, ⟨r, σ.xs ++ (T.times m M t).nodes σ.xs.length, σ.begun + (T.times m M t).size, u.1⟩) := by
   unfold rdTimes
   simp only [Rd.up, Rd.ahead, c1, c2, l1, a1, b1]
   simp only [Rd.put, T.nodes, T.size, T.root, List.length_append, T.nodes_len, List.append_assoc]
   refine Prod.ext ?_ ?_
   ·simp; omega
   ·simp
    omega
  unfold rd
  rw [if_neg (by omega), hl, ← key]
  simp [text, rdNode, Rd.nx, Rd.tl, hl]
 | group k t ih =>
  intro n σ en u r ok fit hn hl hb hf
  simp only [T.size] at hb
  obtain ⟨n, rfl⟩ : ∃ m, n = m + 1 := ⟨n - 1, by omega⟩
  obtain ⟨hc, ot⟩ := ok
  simp only [num] at hn
  split at hn
  ·rename_i hkk
   rw [Option.map_eq_some_iff] at hn
   obtain ⟨v, hv, rfl⟩ := hn
   have hk' : k = (σ.groups : Int) + 1 := hkk
   have l1 := ih n ⟨text t ++ (41 :: r), σ.xs, σ.begun + 1, σ.groups + 1⟩ en v (41 :: r) ot fit hv rfl (by simp; omega) (by simp; omega)
   have key : rdGroup (rd n) ⟨text t ++ (41 :: r), σ.xs, σ.begun + 1, σ.groups⟩ = ((σ.xs.length : Int) + (T.group k t).size - 1, ⟨r, σ.xs ++ (T.group k t).nodes σ.xs.length, σ.begun + (T.group k t).size, v.1⟩) := by
    unfold rdGroup
    simp only [Rd.grp, l1]
    simp only [Rd.put, Rd.tl, T.nodes, T.size, T.root, List.length_append, T.nodes_len, List.append_assoc]
    refine Prod.ext ?_ ?_
    ·simp; omega
    ·simp
     omega
   unfold rd
   rw [if_neg (by omega), hl, ← key]
   simp [text, rdNode, Rd.nx, Rd.tl, hl]
  ·cases hn
end Go.Proofs.YtgllmhheahlpjaaGreatDoor
namespace Go.Proofs.YtgllmhheahlpjaaGreatDoor
open Go.RowKit Go.Lib
def strLen : Value → Nat
 | .string s => s.size
 | _ => 0
theorem strOf_pre (l : List UInt8) : strOfNums (l.map fun c => (c.toNat : Int)) = ⟨l.toArray⟩ := by
 apply ByteArray.ext
 apply Array.ext'
 rw [strOfNums_data, List.map_map]
 have hid : ∀ c : UInt8, UInt8.ofNat ((c.toNat : Int)).toNat = c := fun c => by simp
 simp [Function.comp_def, hid]
theorem indexByte_room (c : UInt8) : ∀ l : List UInt8, Lib.indexByte l c + 1 ≤ l.length
 | [] => by simp [Lib.indexByte]
 | b :: l => by
  have := indexByte_room c l
  unfold Lib.indexByte
  simp only [List.length_cons]
  split
  ·omega
  ·split <;> omega
theorem indexByte_dle (a : UInt8) : Lib.indexByte digs a ≤ 15 := by
 have := indexByte_room a digs
 have e : digs.length = 16 := rfl
 omega
theorem idx_c (a : UInt8) (w : World) : Calls Tryz.prog 123 #[.string ⟨#[48, 49, 50, 51, 52, 53, 54, 55, 56, 57, 97, 98, 99, 100, 101, 102]⟩, .int .u8 (a.toNat : Int)] w fun e w' => e = .returned (.int .i64 (Lib.indexByte digs a)) ∧ ∃ n, w' = w.drewN n := by
 refine (Tryz.strings_IndexByte ⟨#[48, 49, 50, 51, 52, 53, 54, 55, 56, 57, 97, 98, 99, 100, 101, 102]⟩ (a.toNat : Int) w).mono ?_
 rintro e w' ⟨rfl, rfl⟩
 refine ⟨?_, 0, rfl⟩
 have e1 : ((a.toNat : Int)).toNat.toUInt8 = a := by simp
 rw [e1]
 rfl
theorem ofhex_c (s : List UInt8) (hs : s.length < 4294967281) (w : World) :
  Calls Tryz.prog 97 #[.string ⟨s.toArray⟩] w fun e w' => e = .returned (.string ⟨(unhex s).toArray⟩) ∧ Below w.heap.size w w' := by
 obtain ⟨i0, hi, hz0, hz1, hz2⟩ := info_parts infoU8
 go_enter Tryz.func97, Tryz.ntmps97
 go_wp2
 go_loopw [0, 3] (fun sv v wr => ∃ (pre rest : List UInt8) (v' : Value), v = v' ∧ sv = .string ⟨rest.toArray⟩ ∧ unhex s = pre ++ unhex rest ∧ 2 * pre.length + rest.length ≤ s.length ∧ wr.ownsRow w.heap.size 5 1 v' pre.length ((pre.map fun c => (c.toNat : Int)).map (Value.int .u8)) ∧ Below w.heap.size w wr) (fun sv _ _ => strLen sv)
 case atStart => exact ⟨[], s, _, rfl, rfl, rfl, by simp, World.ownsRow_nil _ _ _ _, Below.refl _ _⟩
 case round =>
  obtain ⟨pre, rest, v, rfl, rfl, hu, hl, hown, hB⟩ := hrel
  obtain _ | ⟨a, _ | ⟨b, t⟩⟩ := rest
  ·
   have hcv := convert_own hown
   rw [strOf_pre] at hcv
   have hpre : unhex s = pre := by rw [hu]; simp [unhex]
   go_wp2
   go_ret
   exact ⟨by rw [hpre]; rfl, hB⟩
  ·
   have hcv := convert_own hown
   rw [strOf_pre] at hcv
   have hpre : unhex s = pre := by rw [hu]; simp [unhex]
   go_wp2
   go_ret
   exact ⟨by rw [hpre]; rfl, hB⟩
  ·
   have hna : ∀ w, (Instr.index 9 (.string ⟨(a :: b :: t).toArray⟩) (.int .i64 0)).run Tryz.prog w = .ok (.int .u8 (a.toNat : Int)) w := fun w => by
    rw [run_index_string (P := Tryz.prog) w 9 _ .i64 0 Tryz.underlying9, dif_pos ⟨by omega, by simp [ByteArray.size]; try omega⟩]
    rfl
   have hnb : ∀ w, (Instr.index 9 (.string ⟨(a :: b :: t).toArray⟩) (.int .i64 1)).run Tryz.prog w = .ok (.int .u8 (b.toNat : Int)) w := fun w => by
    rw [run_index_string (P := Tryz.prog) w 9 _ .i64 1 Tryz.underlying9, dif_pos ⟨by omega, by simp [ByteArray.size]; try omega⟩]
    rfl
   have HA := Lib.hid fun w => idx_c a w
   have HB := Lib.hid fun w => idx_c b w
   go_wp2_with fail
   go_quiet (first | refine Calls.quiet_of (HA.out _) | refine Calls.quiet_of (HB.out _))
   clear HA HB hna hnb
   by_cases hia : 0 ≤ Lib.indexByte digs a
   ·by_cases hib : 0 ≤ Lib.indexByte digs b
    ·have hun : unhex s = pre ++ UInt8.ofNat ((Lib.indexByte digs a).toNat * 16 + (Lib.indexByte digs b).toNat) :: unhex t := by rw [hu, unhex, if_pos ⟨hia, hib⟩]
     obtain ⟨p, hp⟩ : ∃ p : Nat, Lib.indexByte digs a = p := ⟨_, (Int.toNat_of_nonneg hia).symm⟩
     obtain ⟨q, hq⟩ : ∃ q : Nat, Lib.indexByte digs b = q := ⟨_, (Int.toNat_of_nonneg hib).symm⟩
     have hp9 := indexByte_dle a
     have hq9 := indexByte_dle b
     rw [hp] at hun hp9 ⊢
     rw [hq] at hun hq9 ⊢
     have hw1 : IntKind.i64.wrap ((p : Int) * 16) = (p : Int) * 16 := by simp [IntKind.wrap, IntKind.signed, IntKind.bits]; omega
     have hw2 : IntKind.i64.wrap ((p : Int) * 16 + q) = (p : Int) * 16 + q := by simp [IntKind.wrap, IntKind.signed, IntKind.bits]; omega
     have hw3 : IntKind.u8.wrap ((p : Int) * 16 + q) = (p : Int) * 16 + q := by simp [IntKind.wrap, IntKind.signed, IntKind.bits]; omega
     have hn1 : ((p : Int) < 0) = False := by simp
     have hn2 : ((q : Int) < 0) = False := by simp
     have hq1 : (wr.drewN nq).ownsRow w.heap.size 5 1 u3 pre.length ((pre.map fun c => (c.toNat : Int)).map (Value.int .u8)) := hown
     have hsz := hB.size
     simp only [List.length_cons] at hl
     have hBq : Below w.heap.size w (wr.drewN nq) := Go.below_drewN hB _
     go_wp2_with (at_builtin; refine wpList_append_own _ rfl _ _ 125 rfl w.heap.size 5 i0 (.int .u8 0) 1 1 Tryz.underlying125 hi hz0 hz1 hz2 rfl (by decide) _ _ _ rfl (hq1.alloc _) ⟨wr.heap.size, 0, none⟩ 1 1 [.int .u8 ((p : Int) * 16 + q)] rfl rfl (cell_one_new _ _ _) (by simp [Value.oneCell']) (by unfold maxLen; omega) (by omega) (by simp; omega) ?_)
     intro v' w1 hown1 hgrow1 hnil1
     have hB1 : Below w.heap.size w w1 := (hBq.alloc (by simp; omega) _).grown hgrow1 (by simp; omega) (fun k hk => own_ge hq1 hk)
     have hext : (⟨(a :: b :: t).toArray⟩ : ByteArray).extract 2 (t.length + 1 + 1) = ⟨t.toArray⟩ := by
      apply ByteArray.ext
      apply Array.ext'
      simp [ByteArray.data_extract]
     have hxn : (UInt8.ofNat ((p : Int).toNat * 16 + (q : Int).toNat)).toNat = p * 16 + q := by
      simp
      omega
     go_wp2
     go_roundw
     case rel =>
      refine ⟨pre ++ [UInt8.ofNat ((p : Int).toNat * 16 + (q : Int).toNat)], t, _, rfl, rfl, by rw [hun]; simp, by simp; omega, ?_, hB1⟩
      rw [List.map_append, List.map_append, List.length_append]
      simp only [List.map_cons, List.map_nil, hxn]
      simpa [Function.comp_def] using hown1
     case measure =>
      simp [strLen, ByteArray.size]
      try omega
    ·have hpre : unhex s = pre := by rw [hu, unhex, if_neg (fun h => hib h.2), List.append_nil]
     have hu0 := hu
     clear hu
     have hcv := convert_own (show World.ownsRow (wr.drewN nq) w.heap.size 5 1 _ _ _ from hown)
     rw [strOf_pre] at hcv
     have hn1 : (Lib.indexByte digs a < 0) = False := by simp; omega
     have hn2 : (Lib.indexByte digs b < 0) = True := by simp; omega
     go_wp2
     go_ret
     exact ⟨by first | rfl | (rw [hpre]; rfl) | (rw [← hu0, hpre]; rfl), Go.below_drewN hB _⟩
   ·have hpre : unhex s = pre := by rw [hu, unhex, if_neg (fun h => hia h.1), List.append_nil]
    have hu0 := hu
    clear hu
    have hcv := convert_own (show World.ownsRow (wr.drewN nq) w.heap.size 5 1 _ _ _ from hown)
    rw [strOf_pre] at hcv
    have hn1 : (Lib.indexByte digs a < 0) = True := by simp; omega
    go_wp2
    go_ret
    exact ⟨by first | rfl | (rw [hpre]; rfl) | (rw [← hu0, hpre]; rfl), Go.below_drewN hB _⟩
end Go.Proofs.YtgllmhheahlpjaaGreatDoor
