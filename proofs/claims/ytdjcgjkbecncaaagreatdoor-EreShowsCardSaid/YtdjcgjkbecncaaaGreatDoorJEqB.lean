/- ere: what holds of a reader along the text. Of no program. -/
import Derived.Test.YtdjcgjkbecncaaaGreatDoorJEpO
import Derived.Test.YtdjcgjkbecncaaaGreatDoorJEpB
set_option linter.unusedVariables false
set_option linter.unusedSimpArgs false
set_option maxRecDepth 100000
set_option maxHeartbeats 40000000
namespace Go.Proofs.YtdjcgjkbecncaaaGreatDoor
open Go.RowKit
def lsum (l : List EL) : Nat := (l.map fun t => t.items.length + t.rows.length).sum
structure EInv (s : List UInt8) (r : ES) : Prop where
 p : r.p ≤ s.length
 sum : lsum r.lo + (r.top.items.length + r.top.rows.length) ≤ r.p
 lo : r.lo.length ≤ r.g
 g : r.g ≤ 9
 ia : r.ia = true → r.top.items ≠ []
section
variable {s : List UInt8} {r r' q : ES}
theorem lsum_snoc (l : List EL) (t : EL) : lsum (l ++ [t]) = lsum l + (t.items.length + t.rows.length) := by simp [lsum]
theorem EInv.item (h : EInv s r) (x : Nd) (n : Nat) (a : Bool) (hn : 1 ≤ n) (hp : r.p + n ≤ s.length) : EInv s (r.item x n a) := by
 have h1 := h.sum
 refine ⟨hp, ?_, h.lo, h.g, fun _ => ?_⟩
 ·show lsum r.lo + ((r.top.items ++ [_]).length + r.top.rows.length) ≤ r.p + n
  rw [List.length_append]; simp only [List.length_cons, List.length_nil]; omega
 ·show r.top.items ++ [_] ≠ []
  simp
theorem EInv.open (h : EInv s r) (hp : r.p + 1 ≤ s.length) (ho : openE r = .ok r') : EInv s r' := by
 unfold openE at ho
 split at ho
 ·cases ho
 ·rename_i hg
  cases ho
  have h1 := h.sum
  have h2 := h.g
  have h3 := h.lo
  refine ⟨hp, ?_, ?_, ?_, fun e => by cases e⟩
  ·show lsum (r.lo ++ [r.top]) + (0 + 0) ≤ r.p + 1
   rw [lsum_snoc]; omega
  ·show (r.lo ++ [r.top]).length ≤ r.g + 1
   simp; omega
  ·show r.g + 1 ≤ 9
   omega
theorem EInv.fin (h : EInv s r) (hq : endE r = some q) : lsum q.lo + (q.top.items.length + q.top.rows.length) ≤ r.p ∧ q.top.items = [] := by
 obtain ⟨k1, k2, k3, k4, k5, k6, k7, k8⟩ := endE_ok hq
 have h1 := h.sum
 have hne : r.top.items ≠ [] := fun e => by unfold endE at hq; rw [if_pos e] at hq; cases hq
 have := List.length_pos_iff.2 hne
 rw [k2, k5, k8]
 simp only [List.length_nil]
 exact ⟨by omega, trivial⟩
theorem EInv.bar (h : EInv s r) (hp : r.p + 1 ≤ s.length) (ho : barE r = .ok r') : EInv s r' := by
 unfold barE at ho
 cases hq : endE r with
 | none => rw [hq] at ho; cases ho
 | some q =>
  rw [hq] at ho
  cases ho
  obtain ⟨k1, k2, k3, k4, k5, k6, k7, k8⟩ := endE_ok hq
  have h1 := (h.fin hq).1
  refine ⟨by show q.p + 1 ≤ _; omega, by show lsum q.lo + (q.top.items.length + q.top.rows.length) ≤ q.p + 1; omega, by show q.lo.length ≤ q.g; rw [k2, k3]; exact h.lo, by show q.g ≤ 9; rw [k3]; exact h.g, fun e => by cases e⟩
theorem EInv.times (h : EInv s r) {n : Nat} {mn mx : Int} (hp : r.p + n ≤ s.length) (ho : timesE r n mn mx = .ok r') : EInv s r' := by
 unfold timesE at ho
 split at ho
 ·rename_i hia
  cases ho
  have h1 := h.sum
  have := List.length_pos_iff.2 (h.ia hia)
  refine ⟨hp, ?_, h.lo, h.g, fun e => by cases e⟩
  show lsum r.lo + ((r.top.items.dropLast ++ [_]).length + r.top.rows.length) ≤ r.p + n
  rw [List.length_append, List.length_dropLast]; simp only [List.length_cons, List.length_nil]; omega
 ·cases ho
theorem EInv.shut (h : EInv s r) (hp : r.p + 1 ≤ s.length) (ho : shutE r = .ok r') : EInv s r' := by
 unfold shutE at ho
 rcases List.eq_nil_or_concat r.lo with hl | ⟨lo', t, hl⟩
 ·rw [hl] at ho; cases ho
 ·rw [List.concat_eq_append] at hl
  rw [hl] at ho
  simp only [List.getLast?_append, List.getLast?_singleton, Option.some_or, Option.or_some] at ho
  cases hq : endE r with
  | none => rw [hq] at ho; cases ho
  | some q =>
   rw [hq] at ho
   obtain ⟨k1, k2, k3, k4, k5, k6, k7, k8⟩ := endE_ok hq
   have h1 := (h.fin hq).1
   have h2 := h.lo
   have h3 := h.g
   rw [hl] at h2
   have hql : q.lo.dropLast = lo' := by rw [k2, hl, List.dropLast_concat]
   simp only [hql] at ho
   cases ho
   obtain ⟨l', hl'⟩ := chE_eq 5 (popE q t lo') q.top.rows
   rw [hl']
   rw [k2, hl, lsum_snoc] at h1
   refine ⟨by show q.p + 1 ≤ _; omega, ?_, ?_, by show q.g ≤ 9; omega, fun _ => ?_⟩
   ·show lsum lo' + ((t.items ++ [_]).length + t.rows.length) ≤ q.p + 1
    rw [List.length_append]; simp only [List.length_cons, List.length_nil]; omega
   ·show lo'.length ≤ q.g
    simp at h2; omega
   ·show t.items ++ [_] ≠ []
    simp
theorem numE_le {u : List UInt8} {n : Nat} {m M : Int} (h : numE u = some (n, m, M)) : n ≤ u.length + 1 := by
 unfold numE at h
 split at h
 ·cases h
 ·split at h
  ·rename_i ha
   simp only [Option.some.injEq, Prod.mk.injEq] at h
   obtain ⟨rfl, _⟩ := h
   have hlt : (u.takeWhile (· != 125)).length < u.length := by
    rcases Nat.lt_or_ge (u.takeWhile (· != 125)).length u.length with q | q
    ·exact q
    ·have hs : u.takeWhile (· != 125) = u := (List.takeWhile_prefix _).eq_of_length (by have := (List.takeWhile_prefix (l := u) (· != 125)).length_le; omega)
     obtain ⟨x, hx, hx2⟩ := List.any_eq_true.1 ha
     rw [← hs] at hx
     have := List.all_eq_true.1 (List.all_takeWhile (p := (· != 125)) (l := u)) x hx
     simp at hx2 this
     exact absurd hx2 this
   omega
  ·cases h
theorem EInv.step (h : EInv s r) {c : UInt8} (hc : s[r.p]? = some c) (ho : stepE s r c = .ok r') : EInv s r' := by
 have hp : r.p < s.length := (List.getElem?_eq_some_iff.1 hc).1
 unfold stepE at ho
 by_cases c94 : c = 94
 ·rw [if_pos c94] at ho
  cases ho; exact h.item _ _ _ (Nat.le_refl _) hp
 rw [if_neg c94] at ho
 by_cases c36 : c = 36
 ·rw [if_pos c36] at ho
  cases ho; exact h.item _ _ _ (Nat.le_refl _) hp
 rw [if_neg c36] at ho
 by_cases c46 : c = 46
 ·rw [if_pos c46] at ho
  cases ho; exact h.item _ _ _ (Nat.le_refl _) hp
 rw [if_neg c46] at ho
 by_cases c91 : c = 91
 ·rw [if_pos c91] at ho
  unfold listE at ho
  cases hq : brkP (s.drop r.p) with
  | none => rw [hq] at ho; cases ho
  | some a =>
   obtain ⟨F, m⟩ := a
   rw [hq] at ho
   cases ho
   have hb := brkP_le hq
   simp only [List.length_drop] at hb
   exact h.item _ _ _ (by omega) (by omega)
 rw [if_neg c91] at ho
 by_cases c40 : c = 40
 ·rw [if_pos c40] at ho
  exact h.open hp ho
 rw [if_neg c40] at ho
 by_cases c41 : c = 41
 ·rw [if_pos c41] at ho
  exact h.shut hp ho
 rw [if_neg c41] at ho
 by_cases c124 : c = 124
 ·rw [if_pos c124] at ho
  exact h.bar hp ho
 rw [if_neg c124] at ho
 by_cases c92 : c = 92
 ·rw [if_pos c92] at ho
  unfold escE at ho
  cases hd : s[r.p + 1]? with
  | none => rw [hd] at ho; cases ho
  | some d =>
   rw [hd] at ho
   have hd2 := (List.getElem?_eq_some_iff.1 hd).1
   by_cases d1 : d = 110
   ·revert ho
    show (if d = 110 then _ else _) = _ → _
    rw [if_pos d1]
    intro ho
    cases ho; exact h.item _ _ _ (by omega) (by omega)
   ·revert ho
    show (if d = 110 then _ else if _ then _ else if _ then _ else _) = _ → _
    rw [if_neg d1]
    intro ho
    by_cases d2 : d = 47 ∨ d ∈ ([46, 91, 92, 40, 41, 42, 43, 63, 123, 125, 124, 94, 36] : List UInt8)
    ·rw [if_pos d2] at ho
     cases ho; exact h.item _ _ _ (by omega) (by omega)
    ·rw [if_neg d2] at ho
     by_cases d3 : 49 ≤ d.toNat ∧ d.toNat ≤ 57
     ·rw [if_pos d3] at ho; cases ho
     ·rw [if_neg d3] at ho; cases ho
 rw [if_neg c92] at ho
 by_cases c42 : c = 42
 ·rw [if_pos c42] at ho
  exact h.times hp ho
 rw [if_neg c42] at ho
 by_cases c43 : c = 43
 ·rw [if_pos c43] at ho
  exact h.times hp ho
 rw [if_neg c43] at ho
 by_cases c63 : c = 63
 ·rw [if_pos c63] at ho
  exact h.times hp ho
 rw [if_neg c63] at ho
 by_cases c123 : c = 123
 ·rw [if_pos c123] at ho
  unfold braceE at ho
  cases hn : numE (s.drop (r.p + 1)) with
  | none => rw [hn] at ho; cases ho
  | some a =>
   obtain ⟨n, m, M⟩ := a
   rw [hn] at ho
   have := numE_le hn
   simp only [List.length_drop] at this
   exact h.times (by omega) ho
 rw [if_neg c123] at ho
 cases ho; exact h.item _ _ _ (Nat.le_refl _) hp
theorem EInv.start (s : List UInt8) : EInv s startE := ⟨Nat.zero_le _, Nat.le_refl _, Nat.le_refl _, Nat.zero_le _, fun e => by cases e⟩
end
end Go.Proofs.YtdjcgjkbecncaaaGreatDoor
namespace Go.Proofs.YtdjcgjkbecncaaaGreatDoor
open Go.RowKit
def AL.all (a : AL) : List T := a.rows ++ a.items
def allA (l : List AL) : List T := l.flatMap AL.all
def AS.trees (a : AS) : List T := allA a.lo ++ a.top.all
def AS.size (a : AS) : Nat := szL a.trees
def elOf (a : AL) (o : Nat) : EL := ⟨a.p, a.n, idxT a.rows o, idxT a.items (o + szL a.rows)⟩
def elsOf : List AL → Nat → List EL
 | [], _ => []
 | a :: l, o => elOf a o :: elsOf l (o + szL a.all)
def esOf (a : AS) : ES := ⟨a.p, flatT a.trees 0, elsOf a.lo 0, elOf a.top (szL (allA a.lo)), a.g, a.ia⟩
def shE (e : EL) : Nat × Nat × Nat × Nat := (e.p, e.n, e.rows.length, e.items.length)
def shA (a : AL) : Nat × Nat × Nat × Nat := (a.p, a.n, a.rows.length, a.items.length)
structure Sh (r : ES) (a : AS) : Prop where
 p : r.p = a.p
 lo : r.lo.map shE = a.lo.map shA
 top : shE r.top = shA a.top
 g : r.g = a.g
 ia : r.ia = a.ia
structure Sim (r : ES) (a : AS) : Prop where
 sh : Sh r a
 ex : a.size ≤ 121 → r = esOf a
 ov : 121 ≤ a.size → r.l.length = 121
theorem allA_snoc (l : List AL) (a : AL) : allA (l ++ [a]) = allA l ++ a.all := by simp [allA]
theorem elsOf_snoc : ∀ (l : List AL) (a : AL) (o : Nat), elsOf (l ++ [a]) o = elsOf l o ++ [elOf a (o + szL (allA l))]
 | [], a, o => by simp [elsOf, allA, szL]
 | b :: l, a, o => by
  rw [List.cons_append, elsOf, elsOf_snoc l, elsOf]
  simp only [List.cons_append, allA, List.flatMap_cons, szL_app]
  rw [Nat.add_assoc]
theorem shE_elOf (a : AL) (o : Nat) : shE (elOf a o) = shA a := by simp [shE, shA, elOf, idxT_len]
theorem shE_elsOf : ∀ (l : List AL) (o : Nat), (elsOf l o).map shE = l.map shA
 | [], _ => rfl
 | a :: l, o => by simp only [elsOf, List.map_cons, shE_elOf, shE_elsOf l]
theorem sh_esOf (a : AS) : Sh (esOf a) a := ⟨rfl, shE_elsOf _ _, shE_elOf _ _, rfl, rfl⟩
theorem esOf_len (a : AS) : (esOf a).l.length = a.size := flatT_len _ _
section
variable {r : ES} {a : AS}
theorem Sim.len (h : Sim r a) : r.l.length = min 121 a.size := by
 rcases Nat.lt_or_ge a.size 122 with q | q
 ·rw [h.ex (by omega), esOf_len]; omega
 ·rw [h.ov (by omega)]; omega
theorem Sim.of_ex (h : a.size ≤ 121) : Sim (esOf a) a := ⟨sh_esOf a, fun _ => rfl, fun k => by rw [esOf_len]; omega⟩
theorem Sh.items (h : Sh r a) : r.top.items.length = a.top.items.length := by
 have := h.top; simp only [shE, shA, Prod.mk.injEq] at this; exact this.2.2.2
theorem Sh.rows (h : Sh r a) : r.top.rows.length = a.top.rows.length := by
 have := h.top; simp only [shE, shA, Prod.mk.injEq] at this; exact this.2.2.1
theorem Sh.tp (h : Sh r a) : r.top.p = a.top.p := by
 have := h.top; simp only [shE, shA, Prod.mk.injEq] at this; exact this.1
theorem Sh.tn (h : Sh r a) : r.top.n = a.top.n := by
 have := h.top; simp only [shE, shA, Prod.mk.injEq] at this; exact this.2.1
theorem Sh.lol (h : Sh r a) : r.lo.length = a.lo.length := by
 have := congrArg List.length h.lo; simpa using this
theorem q5put_len (x : Nd) : (r.put x).l.length = if r.l.length ≤ 120 then r.l.length + 1 else r.l.length := by
 unfold ES.put; simp only; split <;> simp
theorem q5put_rest (x : Nd) : r.put x = { r with l := (r.put x).l } := rfl
theorem item_sim {x : Nd} {t : T} {n : Nat} {f : Bool} (hsh : Sh r a) (hx : a.size + t.size ≤ 121 → ∃ m, t.nodes a.size = m ++ [x] ∧ r = { esOf a with l := flatT a.trees 0 ++ m })
  (ho : 121 ≤ a.size + t.size → (r.put x).l.length = 121) : Sim (r.item x n f) (a.item t n f) := by
 have htr : (a.item t n f).trees = a.trees ++ [t] := by simp [AS.trees, AS.item, AL.all]
 have hsz : (a.item t n f).size = a.size + t.size := by unfold AS.size; rw [htr, szL_app, szL_one]
 refine ⟨⟨?_, hsh.lo, ?_, hsh.g, rfl⟩, fun h => ?_, fun h => ?_⟩
 ·show r.p + n = a.p + n
  rw [hsh.p]
 ·have h1 := hsh.tp; have h2 := hsh.tn; have h3 := hsh.rows; have h4 := hsh.items
  simp [shE, shA, ES.item, AS.item, ES.put, h1, h2, h3, h4]
 ·rw [hsz] at h
  obtain ⟨m, hm, hr⟩ := hx h
  have hml : m.length + 1 = t.size := by have := congrArg List.length hm; rw [T.nodes_len] at this; simpa using this.symm
  have hrl : r.l.length = a.size + m.length := by rw [hr]; show (flatT a.trees 0 ++ m).length = _; rw [List.length_append, flatT_len]; rfl
  have hp : (r.put x).l = flatT a.trees 0 ++ m ++ [x] := by
   unfold ES.put
   simp only
   rw [if_pos (by omega), hr]
  have hp2 : (r.put x).l = flatT (a.trees ++ [t]) 0 := by
   rw [hp, flatT_app, List.append_assoc, ← hm]
   simp only [flatT, List.append_nil, Nat.zero_add]
   rfl
  have hidx : (r.put x).idx = (a.size : Int) + t.size - 1 := by
   unfold ES.idx
   rw [hp]; simp only [List.length_append, List.length_cons, List.length_nil, flatT_len]
   show ((szL a.trees + m.length + (0 + 1) : Nat) : Int) - 1 = _
   have : a.size = szL a.trees := rfl
   omega
  unfold ES.item
  rw [hidx, q5put_rest x]
  simp only
  rw [hp2, hr]
  unfold esOf
  rw [htr]
  simp only [AS.item]
  congr 1
  simp only [elOf]
  congr 1
  rw [idxT_app]
  congr 1
  simp only [idxT]
  congr 2
  have : a.size = szL (allA a.lo) + szL a.top.rows + szL a.top.items := by
   show szL (allA a.lo ++ (a.top.rows ++ a.top.items)) = _
   rw [szL_app, szL_app]; omega
  rw [this]
 ·rw [hsz] at h
  exact ho h
theorem Sim.item (h : Sim r a) (x : Nd) (n : Nat) (f : Bool) : Sim (r.item x n f) (a.item (.leaf x) n f) := by
 have hl := h.len
 refine item_sim h.sh (fun hs => ⟨[], rfl, ?_⟩) (fun hs => ?_)
 ·rw [h.ex (by simp only [T.size] at hs; omega), List.append_nil]
  rfl
 ·rw [q5put_len, hl]
  simp only [T.size] at hs
  split <;> omega
theorem chE_rest (k : Int) (r : ES) (ps : List Int) : (chE k r ps).1 = { r with l := (chE k r ps).1.l } := by
 obtain ⟨l', h⟩ := chE_eq k r ps
 rw [h]
theorem chE_full (k : Int) (r : ES) (ps : List Int) (h : r.l.length ≤ 121) : (chE k r ps).1.l.length = min 121 (r.l.length + (ps.length - 1)) := by
 unfold chE
 rw [chF_full k _ _ h, List.length_reverse, List.length_dropLast]
theorem Sim.endE (h : Sim r a) : match endA a with
  | none => endE r = none
  | some b => ∃ q, Proofs.YtdjcgjkbecncaaaGreatDoor.endE r = some q ∧ Sim q b ∧ b.top.items = [] ∧ b.top.rows ≠ [] ∧ b.lo = a.lo := by
 have hi := h.sh.items
 unfold endA
 by_cases h0 : a.top.items = []
 ·rw [if_pos h0]
  have : r.top.items = [] := by rw [← List.length_eq_zero_iff, hi, h0]; rfl
  simp only
  unfold Proofs.YtdjcgjkbecncaaaGreatDoor.endE
  rw [if_pos this]
 ·rw [if_neg h0]
  have hr0 : r.top.items ≠ [] := fun e => h0 (by rw [← List.length_eq_zero_iff, ← hi, e]; rfl)
  refine ⟨_, by unfold Proofs.YtdjcgjkbecncaaaGreatDoor.endE; rw [if_neg hr0], ?_, rfl, by simp, rfl⟩
  have hpos := List.length_pos_iff.2 h0
  have hch := chT_size 4 a.top.items h0
  have htr : ({ a with top := { a.top with rows := a.top.rows ++ [chT 4 a.top.items], items := [] } } : AS).trees = allA a.lo ++ a.top.rows ++ [chT 4 a.top.items] := by simp [AS.trees, AL.all]
  have hsz : ({ a with top := { a.top with rows := a.top.rows ++ [chT 4 a.top.items], items := [] } } : AS).size = a.size + (a.top.items.length - 1) := by
   show szL _ = szL (allA a.lo ++ (a.top.rows ++ a.top.items)) + _
   rw [htr, szL_app, szL_app, szL_app, szL_app, szL_one]; omega
  refine ⟨⟨?_, ?_, ?_, ?_, ?_⟩, fun hs => ?_, fun hs => ?_⟩
  ·rw [chE_rest]; exact h.sh.p
  ·rw [chE_rest]; exact h.sh.lo
  ·have h1 := h.sh.tp; have h2 := h.sh.tn; have h3 := h.sh.rows
   simp [shE, shA, h1, h2, h3]
  ·rw [chE_rest]; exact h.sh.g
  ·rw [chE_rest]; exact h.sh.ia
  ·rw [hsz] at hs
   have hpre : (flatT (allA a.lo ++ a.top.rows) 0).length = szL (allA a.lo) + szL a.top.rows := by rw [flatT_len, szL_app]
   have hex := h.ex (by omega)
   have hil : a.size = szL (allA a.lo) + szL a.top.rows + szL a.top.items := by
    show szL (allA a.lo ++ (a.top.rows ++ a.top.items)) = _
    rw [szL_app, szL_app]; omega
   have hct := chE_tree 4 a.top.items h0 (flatT (allA a.lo ++ a.top.rows) 0) (esOf a) (by
    show flatT (allA a.lo ++ (a.top.rows ++ a.top.items)) 0 = _
    rw [← List.append_assoc, flatT_app _ a.top.items, hpre, szL_app, Nat.zero_add]) (by rw [hpre]; omega)
   rw [hpre] at hct
   rw [hex]
   have hti : (esOf a).top.items = idxT a.top.items (szL (allA a.lo) + szL a.top.rows) := rfl
   rw [hti, hct]
   unfold esOf
   rw [htr]
   simp only
   congr 1
   ·rw [flatT_app _ [_]]
    simp only [flatT, List.append_nil, szL_app, Nat.zero_add]
   ·simp only [elOf]
    congr 1
    rw [idxT_app]
    congr 1
  ·rw [hsz] at hs
   have hl := h.len
   show (chE 4 r r.top.items).1.l.length = 121
   rw [chE_full 4 r _ (by omega), hl, hi]
   omega
theorem Sim.op (h : Sim r a) : match openA a with
  | .error e => openE r = .error e
  | .ok b => ∃ q, openE r = .ok q ∧ Sim q b := by
 unfold openA openE
 rw [h.sh.g]
 by_cases hg : a.g = 9
 ·rw [if_pos hg, if_pos hg]
 ·rw [if_neg hg, if_neg hg]
  refine ⟨_, rfl, ?_⟩
  have htr : ({ a with p := a.p + 1, lo := a.lo ++ [a.top], top := ⟨a.p, a.g + 1, [], []⟩, g := a.g + 1, ia := false } : AS).trees = a.trees := by simp [AS.trees, allA_snoc, AL.all]
  have hsz : ({ a with p := a.p + 1, lo := a.lo ++ [a.top], top := ⟨a.p, a.g + 1, [], []⟩, g := a.g + 1, ia := false } : AS).size = a.size := by unfold AS.size; rw [htr]
  refine ⟨⟨?_, ?_, ?_, rfl, rfl⟩, fun hs => ?_, fun hs => ?_⟩
  ·show r.p + 1 = a.p + 1
   rw [h.sh.p]
  ·simp only [List.map_append, h.sh.lo, List.map_cons, List.map_nil, h.sh.top]
  ·simp [shE, shA, h.sh.p]
  ·rw [hsz] at hs
   have hex := h.ex hs
   rw [hex]
   unfold esOf
   rw [htr]
   simp only
   congr 1
   rw [elsOf_snoc, Nat.zero_add]
  ·rw [hsz] at hs
   exact h.ov hs
theorem Sim.ba (h : Sim r a) : match barA a with
  | .error e => barE r = .error e
  | .ok b => ∃ q, barE r = .ok q ∧ Sim q b := by
 have he := h.endE
 unfold barA barE
 cases hq : endA a with
 | none => rw [hq] at he; simp only at he ⊢; rw [he]
 | some b =>
  rw [hq] at he
  obtain ⟨q, h1, h2, _⟩ := he
  simp only
  rw [h1]
  refine ⟨_, rfl, ⟨⟨?_, h2.sh.lo, h2.sh.top, h2.sh.g, rfl⟩, fun hs => ?_, fun hs => h2.ov hs⟩⟩
  ·show q.p + 1 = b.p + 1
   rw [h2.sh.p]
  ·rw [h2.ex hs]; rfl
theorem Sim.sht (h : Sim r a) : match shutA a with
  | .error e => shutE r = .error e
  | .ok b => ∃ q, shutE r = .ok q ∧ Sim q b := by
 have he := h.endE
 have hlo := h.sh.lo
 unfold shutA shutE
 rcases List.eq_nil_or_concat a.lo with hl | ⟨lo', ta, hl⟩
 ·rw [hl] at hlo
  have : r.lo = [] := by simpa using hlo
  rw [hl, this]
  rfl
 ·rw [List.concat_eq_append] at hl
  rw [hl] at hlo
  rcases List.eq_nil_or_concat r.lo with hl2 | ⟨lo2, t, hl2⟩
  ·rw [hl2] at hlo; simp at hlo
  rw [List.concat_eq_append] at hl2
  rw [hl2] at hlo
  simp only [List.map_append, List.map_cons, List.map_nil] at hlo
  obtain ⟨hm1, hm2⟩ := List.append_inj' hlo rfl
  have hm2 : shE t = shA ta := by simpa using hm2
  rw [hl, hl2]
  simp only [List.getLast?_append, List.getLast?_singleton, Option.some_or, Option.or_some]
  cases hq : endA a with
  | none => rw [hq] at he; simp only at he ⊢; rw [he]
  | some b =>
   rw [hq] at he
   obtain ⟨q, h1, h2, hbi, hbr, hbl⟩ := he
   simp only
   rw [h1]
   have k := endE_ok h1
   have hql : q.lo.dropLast = lo2 := by rw [k.2.1, hl2, List.dropLast_concat]
   have hbl2 : b.lo.dropLast = lo' := by rw [hbl, hl, List.dropLast_concat]
   simp only
   rw [hql, hbl2]
   refine ⟨_, rfl, ?_⟩
   have hsz : ({ b with lo := lo', top := ta } : AS).size + szL b.top.rows = b.size := by
    show szL (allA lo' ++ ta.all) + _ = szL (allA b.lo ++ (b.top.rows ++ b.top.items))
    rw [hbl, hl, allA_snoc, hbi]
    simp only [szL_app, List.append_nil]
   have hch := chT_size 5 b.top.rows hbr
   have hpos := List.length_pos_iff.2 hbr
   have hrl := h2.sh.rows
   have hql3 := h2.len
   have hts : (T.group (b.top.n : Int) (chT 5 b.top.rows)).size = (chT 5 b.top.rows).size + 1 := rfl
   refine item_sim ?_ (fun hs => ?_) (fun hs => ?_)
   ·rw [chE_rest]
    exact ⟨h2.sh.p, hm1, hm2, h2.sh.g, h2.sh.ia⟩
   ·rw [hts] at hs
    have hex := h2.ex (by omega)
    have hlo2 : lo2 = elsOf lo' 0 ∧ t = elOf ta (szL (allA lo')) := by
     have : q.lo = elsOf b.lo 0 := by rw [hex]; rfl
     rw [k.2.1, hl2, hbl, hl, elsOf_snoc, Nat.zero_add] at this
     obtain ⟨e1, e2⟩ := List.append_inj' this rfl
     exact ⟨e1, by simpa using e2⟩
    have hpre : (flatT (allA lo' ++ ta.all) 0).length = ({ b with lo := lo', top := ta } : AS).size := flatT_len _ _
    have hct := chE_tree 5 b.top.rows hbr (flatT (allA lo' ++ ta.all) 0) (popE (esOf b) t lo2) (by
     show flatT (allA b.lo ++ (b.top.rows ++ b.top.items)) 0 = _
     rw [hbl, hl, allA_snoc, hbi, List.append_nil, flatT_app _ b.top.rows, flatT_len, Nat.zero_add]) (by rw [hpre]; omega)
    rw [hpre] at hct
    rw [hex]
    have htr : (esOf b).top.rows = idxT b.top.rows ({ b with lo := lo', top := ta } : AS).size := by
     show idxT b.top.rows (szL (allA b.lo)) = _
     rw [hbl, hl, allA_snoc]
     rfl
    rw [htr, hct]
    refine ⟨(chT 5 b.top.rows).nodes ({ b with lo := lo', top := ta } : AS).size, ?_, ?_⟩
    ·show (chT 5 b.top.rows).nodes _ ++ [T.root (.group _ _) _] = _
     congr 1
    ·rw [hlo2.1, hlo2.2]
     rfl
   ·rw [hts] at hs
    have e : (popE q t lo2).l = q.l := rfl
    rw [q5put_len, chE_full 5 _ _ (by rw [e]; omega), e, hql3, hrl]
    split <;> omega
theorem Sim.tm (h : Sim r a) (n : Nat) (m M : Int) (hia : r.ia = true → r.top.items ≠ []) : match timesA a n m M with
  | .error e => timesE r n m M = .error e
  | .ok b => ∃ q, timesE r n m M = .ok q ∧ Sim q b := by
 unfold timesA timesE
 have hi := h.sh.items
 rw [← h.sh.ia]
 cases hb : r.ia with
 | false => simp
 | true =>
  simp only [if_true]
  refine ⟨_, rfl, ?_⟩
  obtain ⟨is, t, hit⟩ : ∃ is t, a.top.items = is ++ [t] := by
   rcases List.eq_nil_or_concat a.top.items with e | ⟨is, t, e⟩
   ·exact absurd (by rw [← List.length_eq_zero_iff, hi, e]; rfl) (hia hb)
   ·exact ⟨is, t, by rw [e, List.concat_eq_append]⟩
  have hlast : a.top.items.getLastD (.leaf (kindNd 0)) = t := by rw [hit, List.getLastD_eq_getLast?]; simp
  have hdrop : a.top.items.dropLast = is := by rw [hit, List.dropLast_concat]
  rw [hlast, hdrop]
  have htr : ({ a with p := a.p + n, ia := false, top := { a.top with items := is ++ [.times m M t] } } : AS).trees = allA a.lo ++ a.top.rows ++ is ++ [.times m M t] := by simp [AS.trees, AL.all]
  have hta : a.trees = allA a.lo ++ a.top.rows ++ is ++ [t] := by simp [AS.trees, AL.all, hit]
  have hsz : ({ a with p := a.p + n, ia := false, top := { a.top with items := is ++ [.times m M t] } } : AS).size = a.size + 1 := by
   unfold AS.size
   rw [htr, hta, szL_app, szL_app _ [t], szL_one, szL_one]; simp only [T.size]; omega
  have hl := h.len
  refine ⟨⟨?_, h.sh.lo, ?_, h.sh.g, rfl⟩, fun hs => ?_, fun hs => ?_⟩
  ·show r.p + n = a.p + n
   rw [h.sh.p]
  ·have h1 := h.sh.tp; have h2 := h.sh.tn; have h3 := h.sh.rows
   rw [hit] at hi
   simp only [List.length_append, List.length_cons, List.length_nil] at hi
   simp [shE, shA, ES.put, h1, h2, h3, hi]
  ·rw [hsz] at hs
   have hex := h.ex (by omega)
   rw [hex]
   have hz : a.size = szL (allA a.lo ++ a.top.rows ++ is) + t.size := by
    show szL a.trees = _
    rw [hta, szL_app _ [t], szL_one]
   have hz2 : szL (allA a.lo ++ a.top.rows ++ is) = szL (allA a.lo) + szL a.top.rows + szL is := by rw [szL_app, szL_app]
   have hti : (esOf a).top.items = idxT is (szL (allA a.lo) + szL a.top.rows) ++ [((szL (allA a.lo ++ a.top.rows ++ is) : Nat) : Int) + t.size - 1] := by
    show idxT a.top.items _ = _
    rw [hit, idxT_app, hz2]; rfl
   have hgl : (esOf a).top.items.getLastD 0 = ((szL (allA a.lo ++ a.top.rows ++ is) : Nat) : Int) + t.size - 1 := by rw [hti, List.getLastD_eq_getLast?]; simp
   have hdl : (esOf a).top.items.dropLast = idxT is (szL (allA a.lo) + szL a.top.rows) := by rw [hti, List.dropLast_concat]
   rw [hgl, hdl]
   have hroot : (⟨6, 0, 0, 0, 0, ((szL (allA a.lo ++ a.top.rows ++ is) : Nat) : Int) + t.size - 1, 0, m, M, 0⟩ : Nd) = T.root (.times m M t) (szL (allA a.lo ++ a.top.rows ++ is)) := rfl
   rw [hroot]
   have hp : ((esOf a).put (T.root (.times m M t) (szL (allA a.lo ++ a.top.rows ++ is)))).l = flatT (allA a.lo ++ a.top.rows ++ is ++ [.times m M t]) 0 := by
    unfold ES.put
    simp only
    rw [if_pos (by rw [esOf_len]; omega)]
    show flatT a.trees 0 ++ _ = _
    rw [hta, flatT_app _ [t], flatT_app _ [.times m M t]]
    simp only [flatT, T.nodes, List.append_nil, Nat.zero_add, List.append_assoc]
   have hidx : ((esOf a).put (T.root (.times m M t) (szL (allA a.lo ++ a.top.rows ++ is)))).idx = ((szL (allA a.lo ++ a.top.rows ++ is) : Nat) : Int) + (T.times m M t).size - 1 := by
    unfold ES.idx
    rw [hp, flatT_len, szL_app, szL_one]
    omega
   rw [hidx, q5put_rest]
   simp only
   rw [hp]
   unfold esOf
   rw [htr]
   simp only
   congr 1
   simp only [elOf]
   congr 1
   rw [idxT_app, hz2]
   rfl
  ·rw [hsz] at hs
   show (r.put _).l.length = 121
   rw [q5put_len, hl]
   split <;> omega
theorem Sim.act (h : Sim r a) (t : Tk5) (hia : r.ia = true → r.top.items ≠ []) : match actA a t with
  | .error e => actE r t = .error e
  | .ok b => ∃ q, actE r t = .ok q ∧ Sim q b := by
 cases t with
 | it x n f => exact ⟨_, rfl, h.item x n f⟩
 | op => exact h.op
 | sh => exact h.sht
 | ba => exact h.ba
 | tm n m M => exact h.tm n m M hia
 | er e => rfl
theorem Sim.fin (h : Sim r a) (s : List UInt8) : match finA s a with
  | .error e => finE s r = .error e
  | .ok t => if 120 < t.size then finE s r = .error (2, 0) else ∃ q, finE s r = .ok q ∧ q.l = t.nodes 0 := by
 have he := h.endE
 unfold finA finE
 cases hq : endA a with
 | none => rw [hq] at he; simp only at he ⊢; rw [he]
 | some b =>
  rw [hq] at he
  obtain ⟨q, h1, h2, hbi, hbr, hbl⟩ := he
  simp only
  rw [h1]
  have hll := h2.sh.lol
  by_cases hlo : b.lo = []
  ·have hqlo : q.lo = [] := by rw [← List.length_eq_zero_iff, hll, hlo]; rfl
   simp only [hlo, hqlo, ne_eq, not_true_eq_false, if_false]
   have hch := chT_size 5 b.top.rows hbr
   have hsz : b.size = szL b.top.rows := by
    show szL (allA b.lo ++ (b.top.rows ++ b.top.items)) = _
    rw [hlo, hbi]; simp [allA]
   have hlen := h2.len
   have hpos := List.length_pos_iff.2 hbr
   have hfl := chE_full 5 q q.top.rows (by omega)
   rw [h2.sh.rows, hlen] at hfl
   by_cases h120 : 120 < (chT 5 b.top.rows).size
   ·rw [if_pos h120, if_pos (by omega)]
   ·rw [if_neg h120, if_neg (by omega)]
    refine ⟨_, rfl, ?_⟩
    have hex := h2.ex (by omega)
    rw [hex]
    have hct := chE_tree 5 b.top.rows hbr [] (esOf b) (by
     show flatT (allA b.lo ++ (b.top.rows ++ b.top.items)) 0 = _
     rw [hlo, hbi]; simp [allA]) (by simp; omega)
    have htr : (esOf b).top.rows = idxT b.top.rows 0 := by
     show idxT b.top.rows (szL (allA b.lo)) = _
     rw [hlo]; simp [allA, szL]
    simp only [List.length_nil] at hct
    rw [htr, hct]
    rfl
  ·have hqlo : q.lo ≠ [] := fun e => hlo (by rw [← List.length_eq_zero_iff, ← hll, e]; rfl)
   simp only [hlo, hqlo, ne_eq, not_false_eq_true, if_true]
   rw [h2.sh.tp]
theorem loop_sim (s : List UInt8) : ∀ (fu : Nat) (r : ES) (a : AS), Sim r a → EInv s r → match loopA s fu a with
  | .error e => loopE s fu r = .error e
  | .ok t => if 120 < t.size then loopE s fu r = .error (2, 0) else ∃ q, loopE s fu r = .ok q ∧ q.l = t.nodes 0
 | 0, r, a, h, hi => h.fin s
 | fu + 1, r, a, h, hi => by
  unfold loopA loopE
  rw [← h.sh.p]
  cases hc : s[r.p]? with
  | none => exact h.fin s
  | some b =>
   simp only
   rw [stepE_act]
   have ha := h.act (tokE s r.p b) hi.ia
   cases hq : actA a (tokE s r.p b) with
   | error e => rw [hq] at ha; simp only at ha ⊢; rw [ha]
   | ok a' =>
    rw [hq] at ha
    obtain ⟨r', h1, h2⟩ := ha
    simp only
    rw [h1]
    exact loop_sim s fu r' a' h2 (hi.step hc (by rw [stepE_act]; exact h1))
end
theorem ere_tree (s : List UInt8) (hs : s ≠ []) : match treeP s with
  | .error e => ereP s = .error e
  | .ok t => if 120 < t.size then ereP s = .error (2, 0) else ereP s = .ok (t.nodes 0) := by
 have h := loop_sim s (s.length + 1) startE startA (show Sim (esOf startA) startA from Sim.of_ex (by decide)) (EInv.start s)
 unfold treeP ereP
 rw [if_neg hs]
 cases hq : loopA s (s.length + 1) startA with
 | error e => rw [hq] at h; simp only at h ⊢; rw [h]
 | ok t =>
  rw [hq] at h
  simp only at h ⊢
  by_cases h1 : 120 < t.size
  ·rw [if_pos h1] at h ⊢
   rw [h]
  ·rw [if_neg h1] at h ⊢
   obtain ⟨q, h2, h3⟩ := h
   rw [h2, ← h3]
end Go.Proofs.YtdjcgjkbecncaaaGreatDoor
