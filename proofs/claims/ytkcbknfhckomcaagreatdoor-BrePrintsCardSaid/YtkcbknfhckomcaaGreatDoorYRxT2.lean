/- Of no program: a list in brackets, as the reference reads it; it reads as the program does (P4.1). -/
import Derived.Test.YtkcbknfhckomcaaGreatDoorYBrC
import Derived.Test.YtkcbknfhckomcaaGreatDoorYRxA
set_option linter.unusedVariables false
set_option linter.unusedSimpArgs false
set_option maxRecDepth 100000
set_option maxHeartbeats 40000000
namespace Go.Proofs.YtkcbknfhckomcaaGreatDoor
open Go.RowKit
def nxB (s : List UInt8) (i : Nat) : UInt8 := (s[i + 1]?).getD 0
def rba (s : List UInt8) (i : Nat) (first ends : Bool) : UInt8 × Nat × Bool :=
 match s[i]? with
 | none => (0, 0, false)
 | some c =>
  if c = 91 ∧ (nxB s i = 46 ∨ nxB s i = 61 ∨ nxB s i = 58) then
   if nxB s i ≠ 58 ∧ s[i + 3]? = some (nxB s i) ∧ s[i + 4]? = some 93 then ((s[i + 2]?).getD 0, 5, decide (nxB s i = 46)) else (0, 0, false)
  else if c = 92 ∧ nxB s i = 110 then (10, 2, true)
  else if c = 93 ∧ first = false then (0, 0, false)
  else if c = 45 ∧ first = false ∧ ends = false ∧ nxB s i ≠ 93 then (0, 0, false)
  else (c, 1, true)
def partR (s : List UInt8) (i : Nat) (first : Bool) : Option ((Nat → Bool) × Nat) :=
 if ah s i [91, 58] then clasP s (i + 2) else
 let p := rba s i first false
 if p.2.1 = 0 then none else
 if ah s (i + p.2.1) [45] && decide (i + p.2.1 + 1 < s.length) && !ah s (i + p.2.1) [45, 93] then
  let x := rba s (i + p.2.1 + 1) false true
  if x.2.1 = 0 ∨ x.2.2 = false ∨ p.2.2 = false ∨ x.1.toNat < p.1.toNat then none else some (rg p.1.toNat x.1.toNat, i + p.2.1 + 1 + x.2.1)
 else some (rg p.1.toNat p.1.toNat, i + p.2.1)
def restR (s : List UInt8) : Nat → Nat → (Nat → Bool) → Option ((Nat → Bool) × Nat)
 | 0, _, _ => none
 | f + 1, i, F => if ah s i [93] then some (F, i + 1) else
  match partR s i false with
  | none => none
  | some (G, k) => restR s f k (fun j => F j || G j)
theorem nx_some {s : List UInt8} {i : Nat} {c : UInt8} (h : c ≠ 0) : (nxB s i = c) = (s[i + 1]? = some c) := by
 unfold nxB
 cases s[i + 1]? with
 | none => simp [eq_comm, h]
 | some d => simp
theorem rba_none {s : List UInt8} {i : Nat} (f e : Bool) (h : s[i]? = none) : rba s i f e = (0, 0, false) := by unfold rba; rw [h]
theorem rba_one (s : List UInt8) (i : Nat) (first : Bool) (h58 : ah s i [91, 58] = false) (h61 : ah s i [91, 61] = false) (hf : first = true ∨ ah s i [93] = false)
  (hd : (ah s i [45] && !first && !ah s i [45, 93]) = false) :
  match oneP s i with
  | none => (rba s i first false).2.1 = 0
  | some (b, k) => rba s i first false = (b, k - i, true) ∧ i < k := by
 rw [ah_two] at h58 h61
 rw [ah_one, ah_two] at hd
 rw [ah_one] at hf
 unfold oneP rba clsdP
 simp only [ah_two, nx_some (show (46 : UInt8) ≠ 0 by decide), nx_some (show (61 : UInt8) ≠ 0 by decide), nx_some (show (58 : UInt8) ≠ 0 by decide), nx_some (show (110 : UInt8) ≠ 0 by decide), nx_some (show (93 : UInt8) ≠ 0 by decide), ne_eq]
 cases h0 : s[i]? with
 | none => simp
 | some c =>
  rw [h0] at h58 h61 hd hf
  by_cases c91 : c = 91
  ·subst c91
   simp only [beq_self_eq_true, Bool.true_and, beq_eq_false_iff_ne, ne_eq] at h58 h61
   by_cases c46 : s[i + 1]? = some 46
   ·have hn : nxB s i = 46 := by unfold nxB; rw [c46]; rfl
    simp only [c46, hn]
    cases h2 : s[i + 2]? with
    | none =>
     have h3 : s[i + 3]? = none := by rw [List.getElem?_eq_none_iff] at h2 ⊢; omega
     simp [h3]
    | some b =>
     by_cases h3 : s[i + 2 + 1]? = some 46
     ·by_cases h4 : s[i + 2 + 1 + 1]? = some 93
      ·have h3' : s[i + 3]? = some 46 := h3
       have h4' : s[i + 4]? = some 93 := h4
       simp [h3, h4, h3', h4']
       omega
      ·have h4' : ¬ s[i + 4]? = some 93 := h4
       simp [h3, h4, h4']
     ·have h3' : ¬ s[i + 3]? = some 46 := h3
      simp [h3, h3']
   ·simp [c46, h58, h61]
  ·by_cases c92 : c = 92
   ·subst c92
    by_cases h1 : s[i + 1]? = some 110
    ·simp [h1]
    ·simp [h1]
   ·by_cases c93 : c = 93
    ·subst c93
     have : first = true := by simpa using hf
     subst this
     simp
    ·by_cases c45 : c = 45
     ·subst c45
      simp at hd
      cases first with
      | true => simp
      | false => simp at hd; simp [hd]
     ·simp [c91, c92, c93, c45]
theorem rba_end (s : List UInt8) (i : Nat) (h93 : ah s i [93] = false) :
  oneP s i = if (rba s i false true).2.1 = 0 ∨ (rba s i false true).2.2 = false then none else some ((rba s i false true).1, i + (rba s i false true).2.1) := by
 rw [ah_one] at h93
 unfold oneP rba clsdP
 simp only [ah_two, nx_some (show (46 : UInt8) ≠ 0 by decide), nx_some (show (61 : UInt8) ≠ 0 by decide), nx_some (show (58 : UInt8) ≠ 0 by decide), nx_some (show (110 : UInt8) ≠ 0 by decide), nx_some (show (93 : UInt8) ≠ 0 by decide), ne_eq]
 cases h0 : s[i]? with
 | none => simp
 | some c =>
  rw [h0] at h93
  by_cases c91 : c = 91
  ·subst c91
   by_cases c46 : s[i + 1]? = some 46
   ·have hn : nxB s i = 46 := by unfold nxB; rw [c46]; rfl
    simp only [c46, hn]
    cases h2 : s[i + 2]? with
    | none =>
     have h3 : s[i + 3]? = none := by rw [List.getElem?_eq_none_iff] at h2 ⊢; omega
     simp [h3]
    | some b =>
     by_cases h3 : s[i + 2 + 1]? = some 46
     ·by_cases h4 : s[i + 2 + 1 + 1]? = some 93
      ·have h3' : s[i + 3]? = some 46 := h3
       have h4' : s[i + 4]? = some 93 := h4
       simp [h3, h4, h3', h4']
      ·have h4' : ¬ s[i + 4]? = some 93 := h4
       simp [h3, h4, h4']
     ·have h3' : ¬ s[i + 3]? = some 46 := h3
      simp [h3, h3']
   ·by_cases c61 : s[i + 1]? = some 61
    ·have hn : nxB s i = 61 := by unfold nxB; rw [c61]; rfl
     simp only [c61, hn]
     simp
     split <;> simp
    ·by_cases c58 : s[i + 1]? = some 58
     ·have hn : nxB s i = 58 := by unfold nxB; rw [c58]; rfl
      simp [c58, hn]
     ·simp [c46, c61, c58]
  ·by_cases c92 : c = 92
   ·subst c92
    by_cases h1 : s[i + 1]? = some 110
    ·simp [h1]
    ·simp [h1]
   ·have c93 : ¬ c = 93 := by simpa using h93
    simp [c91, c92, c93]
theorem oneP_none {s : List UInt8} {i : Nat} (h : s.length ≤ i) : oneP s i = none := by
 have h0 : s[i]? = none := List.getElem?_eq_none h
 unfold oneP
 simp [ah_two, h0]
theorem part_same (s : List UInt8) (i : Nat) (first : Bool) (hf : first = true ∨ ah s i [93] = false) :
  partR s i first = partP s i first ∨
  (∃ G k, partP s i first = some (G, k) ∧ partR s i first = none ∧ ah s k [93] = false ∧ partP s k false = none) ∨
  (∃ G k, partR s i first = some (G, k) ∧ partP s i first = none ∧ ah s k [93] = false ∧ partR s k false = none) := by
 by_cases h58 : ah s i [91, 58] = true
 ·left; unfold partR partP; rw [if_pos h58, if_pos h58]
 have h58' : ah s i [91, 58] = false := by simpa using h58
 by_cases h61 : ah s i [91, 61] = true
 ·have g61 := h61
  rw [ah_two, Bool.and_eq_true, beq_iff_eq, beq_iff_eq] at g61
  have hn : nxB s i = 61 := by unfold nxB; rw [g61.2]; rfl
  by_cases hc : s[i + 3]? = some 61 ∧ s[i + 4]? = some 93
  ·have h2 : i + 2 < s.length := by
    have := (List.getElem?_eq_some_iff.1 hc.1).1
    omega
   have e2 : s[i + 2]? = some s[i + 2] := List.getElem?_eq_getElem h2
   have hr : rba s i first false = (s[i + 2], 5, false) := by
    unfold rba
    rw [g61.1]
    simp only [hn]
    rw [if_pos (by decide), if_pos ⟨by decide, hc.1, hc.2⟩, e2]
    rfl
   have hP : partP s i first = some (rg s[i + 2].toNat s[i + 2].toNat, i + 5) := by
    have q3 : ah s (i + 2 + 1) [61, 93] = true := by
     rw [ah_two]
     have a1 : s[i + 2 + 1]? = some 61 := hc.1
     have a2 : s[i + 2 + 1 + 1]? = some 93 := hc.2
     rw [a1, a2]; rfl
    unfold partP clsdP
    rw [if_neg h58, if_pos h61, e2]
    simp only
    rw [if_pos q3]
    rfl
   by_cases hk : (ah s (i + 5) [45] && decide (i + 5 + 1 < s.length) && !ah s (i + 5) [45, 93]) = true
   ·right; left
    refine ⟨_, _, hP, ?_, ?_, ?_⟩
    ·unfold partR
     rw [if_neg h58, hr]
     simp only
     rw [if_neg (by decide), if_pos hk, if_pos (by simp)]
    ·rw [Bool.and_eq_true, Bool.and_eq_true, ah_one, beq_iff_eq] at hk
     rw [ah_one, hk.1.1]; rfl
    ·have hk' := hk
     rw [Bool.and_eq_true, Bool.and_eq_true, ah_one, beq_iff_eq] at hk'
     unfold partP
     rw [if_neg (by rw [ah_two, hk'.1.1]; simp), if_neg (by rw [ah_two, hk'.1.1]; simp), if_pos]
     rw [Bool.and_eq_true, Bool.and_eq_true]
     rw [Bool.and_eq_true, Bool.and_eq_true] at hk
     exact ⟨⟨hk.1.1, rfl⟩, hk.2⟩
   ·left
    rw [hP]
    unfold partR
    rw [if_neg h58, hr]
    simp only
    rw [if_neg (by decide), if_neg hk]
  ·left
   have hr : rba s i first false = (0, 0, false) := by
    unfold rba
    rw [g61.1]
    simp only [hn]
    rw [if_pos (by decide), if_neg (fun h => hc ⟨h.2.1, h.2.2⟩)]
   have hP : partP s i first = none := by
    unfold partP clsdP
    rw [if_neg h58, if_pos h61]
    cases h2 : s[i + 2]? with
    | none => rfl
    | some b =>
     simp only
     have q3 : ¬ ah s (i + 2 + 1) [61, 93] = true := by
      rw [ah_two, Bool.and_eq_true, beq_iff_eq, beq_iff_eq]
      exact hc
     rw [if_neg q3]
     rfl
   rw [hP]
   unfold partR
   rw [if_neg h58, hr]
   rfl
 have h61' : ah s i [91, 61] = false := by simpa using h61
 by_cases hd : (ah s i [45] && !first && !ah s i [45, 93]) = true
 ·left
  have hP : partP s i first = none := by
   unfold partP
   rw [if_neg h58, if_neg h61, if_pos hd]
  have hr : rba s i first false = (0, 0, false) := by
   rw [ah_one, ah_two] at hd
   simp only [Bool.and_eq_true, beq_iff_eq, Bool.not_eq_true', Bool.and_eq_false_iff, beq_eq_false_iff_ne, ne_eq] at hd
   obtain ⟨⟨d0, d1⟩, d2⟩ := hd
   unfold rba
   rw [d0]
   simp only
   have : ¬ nxB s i = 93 := by
    rw [nx_some (by decide)]
    rcases d2 with h | h
    ·exact absurd d0 h
    ·exact h
   rw [if_neg (by simp), if_neg (by simp), if_neg (by simp), if_pos (by simp [d1, this])]
  rw [hP]
  unfold partR
  rw [if_neg h58, hr]
  rfl
 have hd' : (ah s i [45] && !first && !ah s i [45, 93]) = false := by simpa using hd
 have A := rba_one s i first h58' h61' hf hd'
 have hP : partP s i first = tailP s i := by
  unfold partP
  rw [if_neg h58, if_neg h61, if_neg hd]
 rw [hP]
 unfold tailP
 cases h1 : oneP s i with
 | none =>
  rw [h1] at A
  left
  unfold partR
  rw [if_neg h58]
  simp only
  rw [if_pos A]
 | some q =>
  obtain ⟨b, k⟩ := q
  rw [h1] at A
  simp only at A
  obtain ⟨hr, hik⟩ := A
  have hne : ¬ k - i = 0 := by omega
  have hki : i + (k - i) = k := by omega
  have hR : partR s i first = if ah s k [45] && decide (k + 1 < s.length) && !ah s k [45, 93] then (if (rba s (k + 1) false true).2.1 = 0 ∨ (rba s (k + 1) false true).2.2 = false ∨ true = false ∨ (rba s (k + 1) false true).1.toNat < b.toNat then none else some (rg b.toNat (rba s (k + 1) false true).1.toNat, k + 1 + (rba s (k + 1) false true).2.1)) else some (rg b.toNat b.toNat, k) := by
   unfold partR
   rw [if_neg h58, hr]
   simp only
   rw [if_neg hne, hki]
  simp only
  by_cases e1 : ah s k [45, 93] = true
  ·left
   rw [hR, if_neg (by rw [e1]; simp), if_pos (by rw [e1]; rfl)]
  by_cases e2 : ah s k [45] = true
  ·have e1' : ah s k [45, 93] = false := by simpa using e1
   rw [if_neg (show ¬ (ah s k [45, 93] || !ah s k [45]) = true by rw [e1', e2]; simp)]
   have s45 : s[k]? = some 45 := by rw [ah_one, beq_iff_eq] at e2; exact e2
   have n93 : ah s (k + 1) [93] = false := by
    rw [ah_two, s45] at e1'
    rw [ah_one]
    simpa using e1'
   by_cases e3 : k + 1 < s.length
   ·left
    rw [hR, if_pos (by rw [e1', e2, decide_eq_true e3]; rfl), rba_end s (k + 1) n93]
    generalize rba s (k + 1) false true = x
    obtain ⟨z, n, may⟩ := x
    simp only
    by_cases c1 : n = 0 ∨ may = false
    ·rw [if_pos c1, if_pos]
     rcases c1 with c | c
     ·exact .inl c
     ·exact .inr (.inl c)
    ·rw [if_neg c1]
     simp only
     by_cases c2 : z.toNat < b.toNat
     ·rw [if_pos c2, if_pos (.inr (.inr (.inr c2)))]
     ·rw [if_neg c2, if_neg]
      rintro (c | c | c | c)
      ·exact c1 (.inl c)
      ·exact c1 (.inr c)
      ·cases c
      ·exact c2 c
   ·right; right
    refine ⟨rg b.toNat b.toNat, k, ?_, ?_, ?_, ?_⟩
    ·rw [hR, if_neg]
     rw [decide_eq_false e3]
     simp
    ·rw [oneP_none (by omega)]
    ·rw [ah_one, s45]; rfl
    ·have : rba s k false false = (0, 0, false) := by
      unfold rba
      rw [s45]
      simp only
      have : ¬ nxB s k = 93 := by
       rw [nx_some (by decide)]
       rw [ah_one] at n93
       simpa using n93
      rw [if_neg (by simp), if_neg (by simp), if_neg (by simp), if_pos (by simp [this])]
     unfold partR
     rw [if_neg (by rw [ah_two, s45]; simp), this]
     rfl
  ·left
   have e2' : ah s k [45] = false := by simpa using e2
   rw [hR, if_neg (by rw [e2']; simp), if_pos (by rw [e2']; simp)]
theorem rest_same (s : List UInt8) : ∀ (f i : Nat) (F : Nat → Bool), restR s f i F = restP s f i F
 | 0, _, _ => rfl
 | f + 1, i, F => by
  rw [restR, restP]
  by_cases h : ah s i [93] = true
  ·rw [if_pos h, if_pos h]
  rw [if_neg h, if_neg h]
  have h' : ah s i [93] = false := by simpa using h
  rcases part_same s i false (.inr h') with e | ⟨G, k, e1, e2, e3, e4⟩ | ⟨G, k, e1, e2, e3, e4⟩
  ·rw [e]
   cases partP s i false with
   | none => rfl
   | some q => exact rest_same s f q.2 _
  ·rw [e1, e2]
   simp only
   cases f with
   | zero => rfl
   | succ f => rw [restP, if_neg (by rw [e3]; decide), e4]
  ·rw [e1, e2]
   simp only
   cases f with
   | zero => rfl
   | succ f => rw [restR, if_neg (by rw [e3]; decide), e4]
def restF (s : List UInt8) : Nat → Nat → (Nat → Bool) → Bool → Option ((Nat → Bool) × Nat)
 | 0, _, _, _ => none
 | f + 1, i, F, first => if ah s i [93] && !first then some (F, i + 1) else
  match partR s i first with
  | none => none
  | some (G, k) => restF s f k (fun j => F j || G j) false
theorem restF_false (s : List UInt8) : ∀ (f i : Nat) (F : Nat → Bool), restF s f i F false = restR s f i F
 | 0, _, _ => rfl
 | f + 1, i, F => by
  rw [restF, restR]
  simp only [Bool.not_false, Bool.and_true]
  split
  ·rfl
  ·cases partR s i false with
   | none => rfl
   | some q => exact restF_false s f q.2 _
def brkR (s : List UInt8) : Option ((Nat → Bool) × Nat) :=
 if !ah s 0 [91] then none else
 match restF s (s.length + 2) (sk s 1 [94]) (fun _ => false) true with
 | none => none
 | some (F, m) => if noneIn (if ah s 1 [94] then (fun j => !F j) else F) then none else some ((if ah s 1 [94] then (fun j => !F j) else F), m)
theorem brk_same (s : List UInt8) : brkR s = brkP s := by
 unfold brkR brkP
 by_cases h0 : (!ah s 0 [91]) = true
 ·rw [if_pos h0, if_pos h0]
 rw [if_neg h0, if_neg h0, restF]
 simp only [Bool.not_true, Bool.and_false, Bool.false_eq_true, if_false, Bool.false_or]
 have key : ∀ k (G : Nat → Bool), restF s (s.length + 1) k G false = restP s (s.length + 1) k G := fun k G => by rw [restF_false, rest_same]
 rcases part_same s (sk s 1 [94]) true (.inl rfl) with e | ⟨G, k, e1, e2, e3, e4⟩ | ⟨G, k, e1, e2, e3, e4⟩
 ·rw [e]
  cases partP s (sk s 1 [94]) true with
  | none => rfl
  | some q =>
   obtain ⟨G, k⟩ := q
   simp only
   rw [key]
   try rfl
 ·rw [e1, e2]
  simp only
  rw [restP, if_neg (by rw [e3]; decide), e4]
 ·rw [e1, e2]
  simp only
  rw [key, ← rest_same, restR, if_neg (by rw [e3]; decide), e4]
end Go.Proofs.YtkcbknfhckomcaaGreatDoor
namespace Go.Proofs.YtkcbknfhckomcaaGreatDoor
open Go.RowKit
theorem keySet : Tryz.prog.keyTypeAt 2 38 = true := by kernel_rfl
theorem formed4 (a b c d : Int) : (Value.agg #[.int .u64 a, .int .u64 b, .int .u64 c, .int .u64 d]).formed Tryz.prog 38 = true := by
 simp [Value.formed, Tryz.underlying38, cellsSet]
theorem lits4 (a b c d : Nat) (h0 : a < 18446744073709551616) (h1 : b < 18446744073709551616) (h2 : c < 18446744073709551616) (h3 : d < 18446744073709551616) :
  Tryz.prog.keyLits 3 38 [.int .u64 a, .int .u64 b, .int .u64 c, .int .u64 d] = some [.int .u64 a, .int .u64 b, .int .u64 c, .int .u64 d] := by
 have h0 := wf_u64 h0; have h1 := wf_u64 h1; have h2 := wf_u64 h2; have h3 := wf_u64 h3
 simp [Program.keyLits, Tryz.underlying36, Tryz.underlying38, cellsU, cellsSet, h0, h1, h2, h3, show List.range 4 = [0, 1, 2, 3] from rfl]
theorem eq_words (a b c d a' b' c' d' : Nat) (h0 : a < 18446744073709551616) (h1 : b < 18446744073709551616) (h2 : c < 18446744073709551616) (h3 : d < 18446744073709551616) (h0' : a' < 18446744073709551616) (h1' : b' < 18446744073709551616) (h2' : c' < 18446744073709551616) (h3' : d' < 18446744073709551616) (w : World) :
  (Op.equalIn 10000 38 (.agg #[.int .u64 a, .int .u64 b, .int .u64 c, .int .u64 d]) (.agg #[.int .u64 a', .int .u64 b', .int .u64 c', .int .u64 d'])).run Tryz.prog w = .ok (decide (a = a' ∧ b = b' ∧ c = c' ∧ d = d')) w := by
 obtain ⟨r, hr, hiff⟩ := run_equalIn_deep 9998 2 _ keySet w 3 3 _ _ _ _ (formed4 a b c d) (formed4 a' b' c' d') (lits4 a b c d h0 h1 h2 h3) (lits4 a' b' c' d' h0' h1' h2' h3')
 rw [hr]
 congr 1
 rw [Bool.eq_iff_iff, hiff, decide_eq_true_iff]
 simp
 omega
theorem isnode_k (k : Int) (w0 w1 w2 w3 : Nat) (a b m M n : Int) (hx : Nd.Fits ⟨k, w0, w1, w2, w3, a, b, m, M, n⟩) (w : World) :
  Calls Tryz.prog 22 #[.agg #[.int .i64 k, .int .u64 w0, .int .u64 w1, .int .u64 w2, .int .u64 w3, .int .i64 a, .int .i64 b, .int .i64 m, .int .i64 M, .int .i64 n]] w fun e w' => e = .returned (.bool (isNd ⟨k, w0, w1, w2, w3, a, b, m, M, n⟩)) ∧ Below w.heap.size w w' := by
 have fz : Nd.Fits ⟨k, 0, 0, 0, 0, 0, 0, 0, 0, 0⟩ := ⟨hx.k, (by decide : (0 : Nat) < 18446744073709551616), (by decide : (0 : Nat) < 18446744073709551616), (by decide : (0 : Nat) < 18446744073709551616), (by decide : (0 : Nat) < 18446744073709551616), (by decide : -9223372036854775808 ≤ (0 : Int) ∧ (0 : Int) ≤ 9223372036854775807), (by decide : -9223372036854775808 ≤ (0 : Int) ∧ (0 : Int) ≤ 9223372036854775807), (by decide : -9223372036854775808 ≤ (0 : Int) ∧ (0 : Int) ≤ 9223372036854775807), (by decide : -9223372036854775808 ≤ (0 : Int) ∧ (0 : Int) ≤ 9223372036854775807), (by decide : -9223372036854775808 ≤ (0 : Int) ∧ (0 : Int) ≤ 9223372036854775807)⟩
 obtain ⟨ez, hez⟩ : ∃ c, c = decide ((⟨k, w0, w1, w2, w3, a, b, m, M, n⟩ : Nd) = (⟨k, 0, 0, 0, 0, 0, 0, 0, 0, 0⟩ : Nd)) := ⟨_, rfl⟩
 have qz : ∀ w, (Op.equalIn 10000 40 (.agg #[.int .i64 k, .int .u64 w0, .int .u64 w1, .int .u64 w2, .int .u64 w3, .int .i64 a, .int .i64 b, .int .i64 m, .int .i64 M, .int .i64 n]) (.agg #[.int .i64 k, .int .u64 0, .int .u64 0, .int .u64 0, .int .u64 0, .int .i64 0, .int .i64 0, .int .i64 0, .int .i64 0, .int .i64 0])).run Tryz.prog w = .ok ez w := fun w => by rw [hez]; exact eq_nd (⟨k, w0, w1, w2, w3, a, b, m, M, n⟩ : Nd) (⟨k, 0, 0, 0, 0, 0, 0, 0, 0, 0⟩ : Nd) hx fz w
 have f1 : Nd.Fits ⟨1, w0, w1, w2, w3, 0, 0, 0, 0, 0⟩ := ⟨(by decide : -9223372036854775808 ≤ (1 : Int) ∧ (1 : Int) ≤ 9223372036854775807), hx.s0, hx.s1, hx.s2, hx.s3, (by decide : -9223372036854775808 ≤ (0 : Int) ∧ (0 : Int) ≤ 9223372036854775807), (by decide : -9223372036854775808 ≤ (0 : Int) ∧ (0 : Int) ≤ 9223372036854775807), (by decide : -9223372036854775808 ≤ (0 : Int) ∧ (0 : Int) ≤ 9223372036854775807), (by decide : -9223372036854775808 ≤ (0 : Int) ∧ (0 : Int) ≤ 9223372036854775807), (by decide : -9223372036854775808 ≤ (0 : Int) ∧ (0 : Int) ≤ 9223372036854775807)⟩
 obtain ⟨e1, he1⟩ : ∃ c, c = decide ((⟨k, w0, w1, w2, w3, a, b, m, M, n⟩ : Nd) = (⟨1, w0, w1, w2, w3, 0, 0, 0, 0, 0⟩ : Nd)) := ⟨_, rfl⟩
 have q1 : ∀ w, (Op.equalIn 10000 40 (.agg #[.int .i64 k, .int .u64 w0, .int .u64 w1, .int .u64 w2, .int .u64 w3, .int .i64 a, .int .i64 b, .int .i64 m, .int .i64 M, .int .i64 n]) (.agg #[.int .i64 1, .int .u64 w0, .int .u64 w1, .int .u64 w2, .int .u64 w3, .int .i64 0, .int .i64 0, .int .i64 0, .int .i64 0, .int .i64 0])).run Tryz.prog w = .ok e1 w := fun w => by rw [he1]; exact eq_nd (⟨k, w0, w1, w2, w3, a, b, m, M, n⟩ : Nd) (⟨1, w0, w1, w2, w3, 0, 0, 0, 0, 0⟩ : Nd) hx f1 w
 have f2 : Nd.Fits ⟨k, 0, 0, 0, 0, a, b, 0, 0, 0⟩ := ⟨hx.k, (by decide : (0 : Nat) < 18446744073709551616), (by decide : (0 : Nat) < 18446744073709551616), (by decide : (0 : Nat) < 18446744073709551616), (by decide : (0 : Nat) < 18446744073709551616), hx.a, hx.b, (by decide : -9223372036854775808 ≤ (0 : Int) ∧ (0 : Int) ≤ 9223372036854775807), (by decide : -9223372036854775808 ≤ (0 : Int) ∧ (0 : Int) ≤ 9223372036854775807), (by decide : -9223372036854775808 ≤ (0 : Int) ∧ (0 : Int) ≤ 9223372036854775807)⟩
 obtain ⟨e2, he2⟩ : ∃ c, c = decide ((⟨k, w0, w1, w2, w3, a, b, m, M, n⟩ : Nd) = (⟨k, 0, 0, 0, 0, a, b, 0, 0, 0⟩ : Nd)) := ⟨_, rfl⟩
 have q2 : ∀ w, (Op.equalIn 10000 40 (.agg #[.int .i64 k, .int .u64 w0, .int .u64 w1, .int .u64 w2, .int .u64 w3, .int .i64 a, .int .i64 b, .int .i64 m, .int .i64 M, .int .i64 n]) (.agg #[.int .i64 k, .int .u64 0, .int .u64 0, .int .u64 0, .int .u64 0, .int .i64 a, .int .i64 b, .int .i64 0, .int .i64 0, .int .i64 0])).run Tryz.prog w = .ok e2 w := fun w => by rw [he2]; exact eq_nd (⟨k, w0, w1, w2, w3, a, b, m, M, n⟩ : Nd) (⟨k, 0, 0, 0, 0, a, b, 0, 0, 0⟩ : Nd) hx f2 w
 have f6 : Nd.Fits ⟨6, 0, 0, 0, 0, a, 0, m, M, 0⟩ := ⟨(by decide : -9223372036854775808 ≤ (6 : Int) ∧ (6 : Int) ≤ 9223372036854775807), (by decide : (0 : Nat) < 18446744073709551616), (by decide : (0 : Nat) < 18446744073709551616), (by decide : (0 : Nat) < 18446744073709551616), (by decide : (0 : Nat) < 18446744073709551616), hx.a, (by decide : -9223372036854775808 ≤ (0 : Int) ∧ (0 : Int) ≤ 9223372036854775807), hx.mn, hx.mx, (by decide : -9223372036854775808 ≤ (0 : Int) ∧ (0 : Int) ≤ 9223372036854775807)⟩
 obtain ⟨e6, he6⟩ : ∃ c, c = decide ((⟨k, w0, w1, w2, w3, a, b, m, M, n⟩ : Nd) = (⟨6, 0, 0, 0, 0, a, 0, m, M, 0⟩ : Nd)) := ⟨_, rfl⟩
 have q6 : ∀ w, (Op.equalIn 10000 40 (.agg #[.int .i64 k, .int .u64 w0, .int .u64 w1, .int .u64 w2, .int .u64 w3, .int .i64 a, .int .i64 b, .int .i64 m, .int .i64 M, .int .i64 n]) (.agg #[.int .i64 6, .int .u64 0, .int .u64 0, .int .u64 0, .int .u64 0, .int .i64 a, .int .i64 0, .int .i64 m, .int .i64 M, .int .i64 0])).run Tryz.prog w = .ok e6 w := fun w => by rw [he6]; exact eq_nd (⟨k, w0, w1, w2, w3, a, b, m, M, n⟩ : Nd) (⟨6, 0, 0, 0, 0, a, 0, m, M, 0⟩ : Nd) hx f6 w
 have f7 : Nd.Fits ⟨7, 0, 0, 0, 0, a, 0, 0, 0, n⟩ := ⟨(by decide : -9223372036854775808 ≤ (7 : Int) ∧ (7 : Int) ≤ 9223372036854775807), (by decide : (0 : Nat) < 18446744073709551616), (by decide : (0 : Nat) < 18446744073709551616), (by decide : (0 : Nat) < 18446744073709551616), (by decide : (0 : Nat) < 18446744073709551616), hx.a, (by decide : -9223372036854775808 ≤ (0 : Int) ∧ (0 : Int) ≤ 9223372036854775807), (by decide : -9223372036854775808 ≤ (0 : Int) ∧ (0 : Int) ≤ 9223372036854775807), (by decide : -9223372036854775808 ≤ (0 : Int) ∧ (0 : Int) ≤ 9223372036854775807), hx.n⟩
 obtain ⟨e7, he7⟩ : ∃ c, c = decide ((⟨k, w0, w1, w2, w3, a, b, m, M, n⟩ : Nd) = (⟨7, 0, 0, 0, 0, a, 0, 0, 0, n⟩ : Nd)) := ⟨_, rfl⟩
 have q7 : ∀ w, (Op.equalIn 10000 40 (.agg #[.int .i64 k, .int .u64 w0, .int .u64 w1, .int .u64 w2, .int .u64 w3, .int .i64 a, .int .i64 b, .int .i64 m, .int .i64 M, .int .i64 n]) (.agg #[.int .i64 7, .int .u64 0, .int .u64 0, .int .u64 0, .int .u64 0, .int .i64 a, .int .i64 0, .int .i64 0, .int .i64 0, .int .i64 n])).run Tryz.prog w = .ok e7 w := fun w => by rw [he7]; exact eq_nd (⟨k, w0, w1, w2, w3, a, b, m, M, n⟩ : Nd) (⟨7, 0, 0, 0, 0, a, 0, 0, 0, n⟩ : Nd) hx f7 w
 have f8 : Nd.Fits ⟨8, 0, 0, 0, 0, 0, 0, 0, 0, n⟩ := ⟨(by decide : -9223372036854775808 ≤ (8 : Int) ∧ (8 : Int) ≤ 9223372036854775807), (by decide : (0 : Nat) < 18446744073709551616), (by decide : (0 : Nat) < 18446744073709551616), (by decide : (0 : Nat) < 18446744073709551616), (by decide : (0 : Nat) < 18446744073709551616), (by decide : -9223372036854775808 ≤ (0 : Int) ∧ (0 : Int) ≤ 9223372036854775807), (by decide : -9223372036854775808 ≤ (0 : Int) ∧ (0 : Int) ≤ 9223372036854775807), (by decide : -9223372036854775808 ≤ (0 : Int) ∧ (0 : Int) ≤ 9223372036854775807), (by decide : -9223372036854775808 ≤ (0 : Int) ∧ (0 : Int) ≤ 9223372036854775807), hx.n⟩
 obtain ⟨e8, he8⟩ : ∃ c, c = decide ((⟨k, w0, w1, w2, w3, a, b, m, M, n⟩ : Nd) = (⟨8, 0, 0, 0, 0, 0, 0, 0, 0, n⟩ : Nd)) := ⟨_, rfl⟩
 have q8 : ∀ w, (Op.equalIn 10000 40 (.agg #[.int .i64 k, .int .u64 w0, .int .u64 w1, .int .u64 w2, .int .u64 w3, .int .i64 a, .int .i64 b, .int .i64 m, .int .i64 M, .int .i64 n]) (.agg #[.int .i64 8, .int .u64 0, .int .u64 0, .int .u64 0, .int .u64 0, .int .i64 0, .int .i64 0, .int .i64 0, .int .i64 0, .int .i64 n])).run Tryz.prog w = .ok e8 w := fun w => by rw [he8]; exact eq_nd (⟨k, w0, w1, w2, w3, a, b, m, M, n⟩ : Nd) (⟨8, 0, 0, 0, 0, 0, 0, 0, 0, n⟩ : Nd) hx f8 w
 obtain ⟨es, hes⟩ : ∃ c, c = decide (w0 = 0 ∧ w1 = 0 ∧ w2 = 0 ∧ w3 = 0) := ⟨_, rfl⟩
 have qs : ∀ w, (Op.equalIn 10000 38 (.agg #[.int .u64 w0, .int .u64 w1, .int .u64 w2, .int .u64 w3]) (.agg #[.int .u64 0, .int .u64 0, .int .u64 0, .int .u64 0])).run Tryz.prog w = .ok es w := fun w => by rw [hes]; exact eq_words w0 w1 w2 w3 0 0 0 0 hx.s0 hx.s1 hx.s2 hx.s3 (by decide) (by decide) (by decide) (by decide) w
 obtain ⟨r, hr⟩ : ∃ r, r = isNd ⟨k, w0, w1, w2, w3, a, b, m, M, n⟩ := ⟨_, rfl⟩
 rw [← hr]
 unfold isNd at hr
 simp only at hr
 obtain ⟨cm, hcm⟩ : ∃ c, c = isCnt m M := ⟨_, rfl⟩
 obtain ⟨cn, hcn⟩ : ∃ c, c = isNum n := ⟨_, rfl⟩
 rw [← hez, ← he1, ← he2, ← he6, ← he7, ← he8, ← hcm, ← hcn] at hr
 have C1 : ∀ w, Calls Tryz.prog 40 #[.int .i64 m, .int .i64 M] w fun e w' => e = .returned (.bool cm) ∧ w' = w := fun w => by rw [hcm]; exact iscount_c m M w
 have C2 : ∀ w, Calls Tryz.prog 41 #[.int .i64 n] w fun e w' => e = .returned (.bool cn) ∧ w' = w := fun w => by rw [hcn]; exact isnumber_c n w
 rw [show decide (¬ (w0 = 0 ∧ w1 = 0 ∧ w2 = 0 ∧ w3 = 0)) = !es by rw [hes]; simp] at hr
 have H1 := Lib.hid C1; have H2 := Lib.hid C2
 clear hez he1 he2 he6 he7 he8 hcm hcn hes C1 C2 fz f1 f2 f6 f7 f8
 have b0 : Below w.heap.size w (w.alloc (.cells #[.int .i64 k, .int .u64 w0, .int .u64 w1, .int .u64 w2, .int .u64 w3, .int .i64 a, .int .i64 b, .int .i64 m, .int .i64 M, .int .i64 n] 40)) := (Below.refl _ w).alloc (Nat.le_refl _) _
 by_cases h0 : k = 0
 ·subst h0
  have hr : r = ez := by rw [hr]; rfl
  rw [hr]; clear hr
  all_goals (
   go_enter Tryz.func22, Tryz.ntmps22
   go_wp2_with (first | (go_at_call 40; refine (H1.out _).mono ?_; rintro e w1 ⟨rfl, rfl⟩) | (go_at_call 41; refine (H2.out _).mono ?_; rintro e w1 ⟨rfl, rfl⟩))
   all_goals go_ret
   all_goals exact ⟨rfl, b0⟩)
 by_cases h1 : k = 1
 ·subst h1
  have hr : r = (!es && e1) := by rw [hr]; rfl
  rw [hr]; clear hr
  cases es <;> cases e1
  all_goals (
   go_enter Tryz.func22, Tryz.ntmps22
   go_wp2_with (first | (go_at_call 40; refine (H1.out _).mono ?_; rintro e w1 ⟨rfl, rfl⟩) | (go_at_call 41; refine (H2.out _).mono ?_; rintro e w1 ⟨rfl, rfl⟩))
   all_goals go_ret
   all_goals exact ⟨rfl, b0⟩)
 by_cases h2 : k = 2
 ·subst h2
  have hr : r = ez := by rw [hr]; rfl
  rw [hr]; clear hr
  all_goals (
   go_enter Tryz.func22, Tryz.ntmps22
   go_wp2_with (first | (go_at_call 40; refine (H1.out _).mono ?_; rintro e w1 ⟨rfl, rfl⟩) | (go_at_call 41; refine (H2.out _).mono ?_; rintro e w1 ⟨rfl, rfl⟩))
   all_goals go_ret
   all_goals exact ⟨rfl, b0⟩)
 by_cases h3 : k = 3
 ·subst h3
  have hr : r = ez := by rw [hr]; rfl
  rw [hr]; clear hr
  all_goals (
   go_enter Tryz.func22, Tryz.ntmps22
   go_wp2_with (first | (go_at_call 40; refine (H1.out _).mono ?_; rintro e w1 ⟨rfl, rfl⟩) | (go_at_call 41; refine (H2.out _).mono ?_; rintro e w1 ⟨rfl, rfl⟩))
   all_goals go_ret
   all_goals exact ⟨rfl, b0⟩)
 by_cases h4 : k = 4
 ·subst h4
  have hr : r = e2 := by rw [hr]; rfl
  rw [hr]; clear hr
  all_goals (
   go_enter Tryz.func22, Tryz.ntmps22
   go_wp2_with (first | (go_at_call 40; refine (H1.out _).mono ?_; rintro e w1 ⟨rfl, rfl⟩) | (go_at_call 41; refine (H2.out _).mono ?_; rintro e w1 ⟨rfl, rfl⟩))
   all_goals go_ret
   all_goals exact ⟨rfl, b0⟩)
 by_cases h5 : k = 5
 ·subst h5
  have hr : r = e2 := by rw [hr]; rfl
  rw [hr]; clear hr
  all_goals (
   go_enter Tryz.func22, Tryz.ntmps22
   go_wp2_with (first | (go_at_call 40; refine (H1.out _).mono ?_; rintro e w1 ⟨rfl, rfl⟩) | (go_at_call 41; refine (H2.out _).mono ?_; rintro e w1 ⟨rfl, rfl⟩))
   all_goals go_ret
   all_goals exact ⟨rfl, b0⟩)
 by_cases h6 : k = 6
 ·subst h6
  have hr : r = (cm && e6) := by rw [hr]; rfl
  rw [hr]; clear hr
  cases cm <;> cases e6
  all_goals (
   go_enter Tryz.func22, Tryz.ntmps22
   go_wp2_with (first | (go_at_call 40; refine (H1.out _).mono ?_; rintro e w1 ⟨rfl, rfl⟩) | (go_at_call 41; refine (H2.out _).mono ?_; rintro e w1 ⟨rfl, rfl⟩))
   all_goals go_ret
   all_goals exact ⟨rfl, b0⟩)
 by_cases h7 : k = 7
 ·subst h7
  have hr : r = (cn && e7) := by rw [hr]; rfl
  rw [hr]; clear hr
  cases cn <;> cases e7
  all_goals (
   go_enter Tryz.func22, Tryz.ntmps22
   go_wp2_with (first | (go_at_call 40; refine (H1.out _).mono ?_; rintro e w1 ⟨rfl, rfl⟩) | (go_at_call 41; refine (H2.out _).mono ?_; rintro e w1 ⟨rfl, rfl⟩))
   all_goals go_ret
   all_goals exact ⟨rfl, b0⟩)
 by_cases h8 : k = 8
 ·subst h8
  have hr : r = (cn && e8) := by rw [hr]; rfl
  rw [hr]; clear hr
  cases cn <;> cases e8
  all_goals (
   go_enter Tryz.func22, Tryz.ntmps22
   go_wp2_with (first | (go_at_call 40; refine (H1.out _).mono ?_; rintro e w1 ⟨rfl, rfl⟩) | (go_at_call 41; refine (H2.out _).mono ?_; rintro e w1 ⟨rfl, rfl⟩))
   all_goals go_ret
   all_goals exact ⟨rfl, b0⟩)
 have hr : r = false := by rw [hr]; simp [h0, h1, h2, h3, h4, h5, h6, h7, h8]
 rw [hr]; clear hr
 go_enter Tryz.func22, Tryz.ntmps22
 go_wp2_with (first | (go_at_call 40; refine (H1.out _).mono ?_; rintro e w1 ⟨rfl, rfl⟩) | (go_at_call 41; refine (H2.out _).mono ?_; rintro e w1 ⟨rfl, rfl⟩))
 all_goals go_ret
 all_goals exact ⟨rfl, b0⟩
end Go.Proofs.YtkcbknfhckomcaaGreatDoor
namespace Go.Proofs.YtkcbknfhckomcaaGreatDoor
inductive T where
 | leaf (x : Nd)
 | two (k : Int) (l r : T)
 | times (m M : Int) (t : T)
 | group (n : Int) (t : T)
namespace T
def size : T → Nat
 | leaf _ => 1
 | two _ l r => l.size + r.size + 1
 | times _ _ t => t.size + 1
 | group _ t => t.size + 1
theorem size_pos (t : T) : 0 < t.size := by cases t <;> simp [size]
def root : T → Nat → Nd
 | leaf x, _ => x
 | two k l r, o => ⟨k, 0, 0, 0, 0, (o : Int) + l.size - 1, (o : Int) + l.size + r.size - 1, 0, 0, 0⟩
 | times m M t, o => ⟨6, 0, 0, 0, 0, (o : Int) + t.size - 1, 0, m, M, 0⟩
 | group n t, o => ⟨7, 0, 0, 0, 0, (o : Int) + t.size - 1, 0, 0, 0, n⟩
def Ok : T → Prop
 | leaf x => isNd x = true ∧ (x.kind = 0 ∨ x.kind = 1 ∨ x.kind = 2 ∨ x.kind = 3 ∨ x.kind = 8)
 | two k l r => (k = 4 ∨ k = 5) ∧ l.Ok ∧ r.Ok
 | times m M t => isCnt m M = true ∧ t.Ok
 | group n t => isNum n = true ∧ t.Ok
def At (l : Nat → Option Nd) : T → Nat → Prop
 | leaf x, o => l o = some x
 | two k a b, o => At l a o ∧ At l b (o + a.size) ∧ l (o + a.size + b.size) = some (root (two k a b) o)
 | times m M t, o => At l t o ∧ l (o + t.size) = some (root (times m M t) o)
 | group n t, o => At l t o ∧ l (o + t.size) = some (root (group n t) o)
theorem At.root {l : Nat → Option Nd} {t : T} {o : Nat} (h : At l t o) : l (o + t.size - 1) = some (t.root o) := by
 cases t with
 | leaf x => exact h
 | two k a b => rw [show o + (two k a b).size - 1 = o + a.size + b.size by simp only [size]; omega]; exact h.2.2
 | times m M t => rw [show o + (times m M t).size - 1 = o + t.size by simp only [size]; omega]; exact h.2
 | group n t => rw [show o + (group n t).size - 1 = o + t.size by simp only [size]; omega]; exact h.2
theorem Ok.kind {t : T} (h : t.Ok) (o : Nat) : match t with
  | leaf _ => (t.root o).kind = 0 ∨ (t.root o).kind = 1 ∨ (t.root o).kind = 2 ∨ (t.root o).kind = 3 ∨ (t.root o).kind = 8
  | two _ _ _ => (t.root o).kind = 4 ∨ (t.root o).kind = 5
  | times _ _ _ => (t.root o).kind = 6
  | group _ _ => (t.root o).kind = 7 := by
 cases t with
 | leaf x => exact h.2
 | two k a b => exact h.1
 | times m M t => rfl
 | group n t => rfl
theorem uniq (l : Nat → Option Nd) : ∀ (t t' : T) (o o' : Nat), t.Ok → t'.Ok → At l t o → At l t' o' → o + t.size = o' + t'.size → t = t' ∧ o = o' := by
 intro t
 induction t with
 | leaf x =>
  intro t' o o' h h' a a' e
  have r := a.root; have r' := a'.root
  rw [e, r'] at r
  have k := h.kind o; have k' := h'.kind o'
  cases t' with
  | leaf x' =>
   simp [size] at e
   subst e
   simp [T.root] at r
   exact ⟨by rw [r], rfl⟩
  | two _ _ _ => rw [Option.some.inj r] at k'; simp at k k'; omega
  | times _ _ _ => rw [Option.some.inj r] at k'; simp at k k'; omega
  | group _ _ => rw [Option.some.inj r] at k'; simp at k k'; omega
 | two k0 x y ihx ihy =>
  intro t' o o' h h' a a' e
  have r := a.root; have r' := a'.root
  rw [e, r'] at r
  have k := h.kind o; have k' := h'.kind o'
  have r1 := Option.some.inj r
  cases t' with
  | leaf x' => rw [r1] at k'; simp at k k'; omega
  | two k1 x' y' =>
   simp [T.root] at r1
   simp [size] at e
   obtain ⟨e1, e2⟩ := ihx x' o o' h.2.1 h'.2.1 a.1 a'.1 (by omega)
   subst e1; subst e2
   obtain ⟨e1, _⟩ := ihy y' _ _ h.2.2 h'.2.2 a.2.1 a'.2.1 (by omega)
   subst e1
   exact ⟨by rw [r1.1], rfl⟩
  | times _ _ _ => rw [r1] at k'; simp at k k'; omega
  | group _ _ => rw [r1] at k'; simp at k k'; omega
 | times m M x ih =>
  intro t' o o' h h' a a' e
  have r := a.root; have r' := a'.root
  rw [e, r'] at r
  have k := h.kind o; have k' := h'.kind o'
  have r1 := Option.some.inj r
  cases t' with
  | leaf x' => rw [r1] at k'; simp at k k'; omega
  | two _ _ _ => rw [r1] at k'; simp at k k'; omega
  | times m' M' x' =>
   simp [T.root] at r1
   simp [size] at e
   obtain ⟨e1, e2⟩ := ih x' o o' h.2 h'.2 a.1 a'.1 (by omega)
   subst e1; subst e2
   exact ⟨by rw [r1.2.1, r1.2.2], rfl⟩
  | group _ _ => rw [r1] at k'; simp at k k'; omega
 | group n x ih =>
  intro t' o o' h h' a a' e
  have r := a.root; have r' := a'.root
  rw [e, r'] at r
  have k := h.kind o; have k' := h'.kind o'
  have r1 := Option.some.inj r
  cases t' with
  | leaf x' => rw [r1] at k'; simp at k k'; omega
  | two _ _ _ => rw [r1] at k'; simp at k k'; omega
  | times _ _ _ => rw [r1] at k'; simp at k k'; omega
  | group n' x' =>
   simp [T.root] at r1
   simp [size] at e
   obtain ⟨e1, e2⟩ := ih x' o o' h.2 h'.2 a.1 a'.1 (by omega)
   subst e1; subst e2
   exact ⟨by rw [r1.2], rfl⟩
def Ends (l : Nat → Option Nd) (b i : Nat) : Prop := ∃ t : T, t.Ok ∧ At l t b ∧ b + t.size = i + 1
theorem Ends.uniq {l : Nat → Option Nd} {b b' i : Nat} (h : Ends l b i) (h' : Ends l b' i) : b = b' := by
 obtain ⟨t, ho, ha, he⟩ := h
 obtain ⟨t', ho', ha', he'⟩ := h'
 exact (T.uniq l t t' b b' ho ho' ha ha' (by omega)).2
theorem Ends.le {l : Nat → Option Nd} {b i : Nat} (h : Ends l b i) : b ≤ i := by
 obtain ⟨t, ho, ha, he⟩ := h
 have := t.size_pos
 omega
theorem At.inner {l : Nat → Option Nd} : ∀ {t : T} {o : Nat}, t.Ok → At l t o → ∀ i, o ≤ i → i < o + t.size → ∃ b, Ends l b i
 | leaf x, o, h, a, i, h1, h2 => ⟨o, leaf x, h, a, by simp [size] at h2 ⊢; omega⟩
 | two k x y, o, h, a, i, h1, h2 => by
  simp only [size] at h2
  rcases Nat.lt_or_ge i (o + x.size) with c | c
  ·exact At.inner h.2.1 a.1 i h1 c
  ·rcases Nat.lt_or_ge i (o + x.size + y.size) with d | d
   ·exact At.inner h.2.2 a.2.1 i c d
   ·exact ⟨o, two k x y, h, a, by simp only [size]; omega⟩
 | times m M x, o, h, a, i, h1, h2 => by
  simp only [size] at h2
  rcases Nat.lt_or_ge i (o + x.size) with c | c
  ·exact At.inner h.2 a.1 i h1 c
  ·exact ⟨o, times m M x, h, a, by simp only [size]; omega⟩
 | group n x, o, h, a, i, h1, h2 => by
  simp only [size] at h2
  rcases Nat.lt_or_ge i (o + x.size) with c | c
  ·exact At.inner h.2 a.1 i h1 c
  ·exact ⟨o, group n x, h, a, by simp only [size]; omega⟩
end T
end Go.Proofs.YtkcbknfhckomcaaGreatDoor
namespace Go.Proofs.YtkcbknfhckomcaaGreatDoor
theorem isNd_two {x : Nd} (h : isNd x = true) (hk : x.kind = 4 ∨ x.kind = 5) : x = ⟨x.kind, 0, 0, 0, 0, x.a, x.b, 0, 0, 0⟩ := by
 unfold isNd at h
 rw [if_neg (by omega), if_neg (by omega), if_pos hk] at h
 exact of_decide_eq_true h
theorem isNd_times {x : Nd} (h : isNd x = true) (hk : x.kind = 6) : isCnt x.mn x.mx = true ∧ x = ⟨6, 0, 0, 0, 0, x.a, 0, x.mn, x.mx, 0⟩ := by
 unfold isNd at h
 rw [if_neg (by omega), if_neg (by omega), if_neg (by omega), if_pos hk, Bool.and_eq_true] at h
 exact ⟨h.1, of_decide_eq_true h.2⟩
theorem isNd_group {x : Nd} (h : isNd x = true) (hk : x.kind = 7) : isNum x.n = true ∧ x = ⟨7, 0, 0, 0, 0, x.a, 0, 0, 0, x.n⟩ := by
 unfold isNd at h
 rw [if_neg (by omega), if_neg (by omega), if_neg (by omega), if_neg (by omega), if_pos hk, Bool.and_eq_true] at h
 exact ⟨h.1, of_decide_eq_true h.2⟩
theorem isNd_kind {x : Nd} (h : isNd x = true) : x.kind = 0 ∨ x.kind = 1 ∨ x.kind = 2 ∨ x.kind = 3 ∨ x.kind = 4 ∨ x.kind = 5 ∨ x.kind = 6 ∨ x.kind = 7 ∨ x.kind = 8 := by
 by_cases h0 : x.kind = 0 ∨ x.kind = 2 ∨ x.kind = 3
 ·omega
 by_cases h1 : x.kind = 1
 ·omega
 by_cases h2 : x.kind = 4 ∨ x.kind = 5
 ·omega
 by_cases h3 : x.kind = 6
 ·omega
 by_cases h4 : x.kind = 7
 ·omega
 by_cases h5 : x.kind = 8
 ·omega
 unfold isNd at h
 rw [if_neg h0, if_neg h1, if_neg h2, if_neg h3, if_neg h4, if_neg h5] at h
 cases h
namespace T
variable {l : Nat → Option Nd} {k : Nat} {x : Nd}
theorem ends_leaf (hx : l k = some x) (hn : isNd x = true) (hk : x.kind = 0 ∨ x.kind = 1 ∨ x.kind = 2 ∨ x.kind = 3 ∨ x.kind = 8) : Ends l k k :=
 ⟨leaf x, ⟨hn, hk⟩, hx, rfl⟩
theorem ends_two (hx : l k = some x) (hn : isNd x = true) (hk : x.kind = 4 ∨ x.kind = 5) {b : Nat} :
  Ends l b k ↔ ∃ c, 1 ≤ k ∧ x.b = (k : Int) - 1 ∧ Ends l c (k - 1) ∧ 1 ≤ c ∧ x.a = (c : Int) - 1 ∧ Ends l b (c - 1) := by
 constructor
 ·rintro ⟨t, ho, ha, he⟩
  have r := ha.root
  rw [show b + t.size - 1 = k by omega, hx] at r
  have kk := ho.kind b
  rw [← Option.some.inj r] at kk
  have r := Option.some.inj r
  cases t with
  | leaf y => simp at kk; omega
  | times m M t => simp at kk; omega
  | group n t => simp at kk; omega
  | two k0 p q =>
   simp only [size] at he
   have hp := p.size_pos
   have hq := q.size_pos
   refine ⟨b + p.size, by omega, by rw [r]; show (b : Int) + p.size + q.size - 1 = _; omega, ⟨q, ho.2.2, ha.2.1, by omega⟩, by omega, by rw [r]; show (b : Int) + p.size - 1 = _; omega, ⟨p, ho.2.1, ha.1, by omega⟩⟩
 ·rintro ⟨c, h1, hb, ⟨q, hq, aq, eq⟩, hc, hA, ⟨p, hp, ap, ep⟩⟩
  have e := isNd_two hn hk
  have ec : c = b + p.size := by omega
  subst ec
  refine ⟨two x.kind p q, ⟨hk, hp, hq⟩, ⟨ap, aq, ?_⟩, by simp only [size]; omega⟩
  rw [show b + p.size + q.size = k by omega, hx, e]
  simp only [root]
  congr 2
  rw [hb]; omega
theorem ends_times (hx : l k = some x) (hn : isNd x = true) (hk : x.kind = 6) {b : Nat} :
  Ends l b k ↔ 1 ≤ k ∧ x.a = (k : Int) - 1 ∧ Ends l b (k - 1) := by
 constructor
 ·rintro ⟨t, ho, ha, he⟩
  have r := ha.root
  rw [show b + t.size - 1 = k by omega, hx] at r
  have kk := ho.kind b
  rw [← Option.some.inj r] at kk
  have r := Option.some.inj r
  cases t with
  | leaf y => simp at kk; omega
  | two _ _ _ => simp at kk; omega
  | group n t => simp at kk; omega
  | times m M p =>
   simp only [size] at he
   have hp := p.size_pos
   exact ⟨by omega, by rw [r]; show (b : Int) + p.size - 1 = _; omega, ⟨p, ho.2, ha.1, by omega⟩⟩
 ·rintro ⟨h1, hA, ⟨p, hp, ap, ep⟩⟩
  obtain ⟨hc, e⟩ := isNd_times hn hk
  refine ⟨times x.mn x.mx p, ⟨hc, hp⟩, ⟨ap, ?_⟩, by simp only [size]; omega⟩
  rw [show b + p.size = k by omega, hx, e]
  simp only [root]
  congr 2
  rw [hA]; omega
theorem ends_group (hx : l k = some x) (hn : isNd x = true) (hk : x.kind = 7) {b : Nat} :
  Ends l b k ↔ 1 ≤ k ∧ x.a = (k : Int) - 1 ∧ Ends l b (k - 1) := by
 constructor
 ·rintro ⟨t, ho, ha, he⟩
  have r := ha.root
  rw [show b + t.size - 1 = k by omega, hx] at r
  have kk := ho.kind b
  rw [← Option.some.inj r] at kk
  have r := Option.some.inj r
  cases t with
  | leaf y => simp at kk; omega
  | two _ _ _ => simp at kk; omega
  | times m M t => simp at kk; omega
  | group n p =>
   simp only [size] at he
   have hp := p.size_pos
   exact ⟨by omega, by rw [r]; show (b : Int) + p.size - 1 = _; omega, ⟨p, ho.2, ha.1, by omega⟩⟩
 ·rintro ⟨h1, hA, ⟨p, hp, ap, ep⟩⟩
  obtain ⟨hc, e⟩ := isNd_group hn hk
  refine ⟨group x.n p, ⟨hc, hp⟩, ⟨ap, ?_⟩, by simp only [size]; omega⟩
  rw [show b + p.size = k by omega, hx, e]
  simp only [root]
  congr 2
  rw [hA]; omega
def Whole (l : Nat → Option Nd) (n : Nat) : Prop := Ends l 0 (n - 1)
theorem Whole.inner {n : Nat} (h : Whole l n) {i : Nat} (hi : i < n) : ∃ b, Ends l b i := by
 obtain ⟨t, ho, ha, he⟩ := h
 exact ha.inner ho i (by omega) (by omega)
end T
end Go.Proofs.YtkcbknfhckomcaaGreatDoor
