/- Of no program: what is ahead, by what is left of a text. -/
import Derived.Test.YtdjcgjkbecncaaaGreatDoorJEpB
import Derived.Test.YtdjcgjkbecncaaaGreatDoorJBrKb
set_option linter.unusedVariables false
set_option linter.unusedSimpArgs false
set_option maxRecDepth 100000
set_option maxHeartbeats 40000000
namespace Go.Proofs.YtdjcgjkbecncaaaGreatDoor
open Go.RowKit Go.Lib
theorem ah_drop {s : List UInt8} {i : Nat} {x : List UInt8} (h : s.drop i = x) (l : List UInt8) : ah s i l = l.isPrefixOf x := by unfold ah; rw [h]
theorem atDrop {s : List UInt8} {i : Nat} {c : UInt8} {x : List UInt8} (h : s.drop i = c :: x) : s[i]? = some c := by
 have : (s.drop i)[0]? = some c := by rw [h]; rfl
 simpa using this
theorem drop_step {s : List UInt8} {i : Nat} {x y : List UInt8} (h : s.drop i = x ++ y) : s.drop (i + x.length) = y := by
 rw [← List.drop_drop, h, List.drop_left]
theorem drop_cons {s : List UInt8} {i : Nat} {c : UInt8} {y : List UInt8} (h : s.drop i = c :: y) : s.drop (i + 1) = y := drop_step (x := [c]) h
theorem len_drop {s : List UInt8} {i : Nat} {x : List UInt8} (h : s.drop i = x) (hi : i ≤ s.length) : i + x.length = s.length := by
 rw [← h, List.length_drop]; omega
def Hd (x : List UInt8) : Prop := ∃ c y, x = c :: y ∧ c ≠ 42 ∧ (c = 92 → ∃ d z, y = d :: z ∧ d ≠ 123 ∧ d ≠ 41)
def RowEnd (x : List UInt8) : Prop := x = [] ∨ ∃ y, x = 92 :: 41 :: y
theorem isTimes_hd {s : List UInt8} {i : Nat} {x : List UInt8} (h : s.drop i = x) (hx : Hd x ∨ RowEnd x) : isTimesP s i = false := by
 unfold isTimesP
 rw [ah_drop h, ah_drop h]
 rcases hx with ⟨c, y, rfl, hc, hd⟩ | rfl | ⟨y, rfl⟩
 ·have h1 : ([42] : List UInt8).isPrefixOf (c :: y) = false := by
   simp [List.isPrefixOf]
   exact fun e => hc e.symm
  rw [h1]
  by_cases h92 : c = 92
  ·obtain ⟨d, z, rfl, h123, _⟩ := hd h92
   subst h92
   simp [List.isPrefixOf]
   exact fun e => h123 e.symm
  ·simp [List.isPrefixOf]
   exact fun e => absurd e.symm h92
 ·rfl
 ·rfl
theorem ends_hd {s : List UInt8} {i : Nat} {x : List UInt8} (h : s.drop i = x) (hx : Hd x) : endsP s i = false := by
 unfold endsP
 rw [ah_drop h]
 obtain ⟨c, y, rfl, hc, hd⟩ := hx
 have hl : i ≠ s.length := by
  intro e
  rw [e, List.drop_length] at h
  cases h
 rw [decide_eq_false hl, Bool.false_or]
 by_cases h92 : c = 92
 ·obtain ⟨d, z, rfl, _, h41⟩ := hd h92
  subst h92
  simp [List.isPrefixOf]
  exact fun e => h41 e.symm
 ·simp [List.isPrefixOf]
  exact fun e => absurd e.symm h92
theorem ends_end {s : List UInt8} {i : Nat} {x : List UInt8} (h : s.drop i = x) (hi : i ≤ s.length) (hx : RowEnd x) : endsP s i = true := by
 unfold endsP
 rcases hx with rfl | ⟨y, rfl⟩
 ·have := len_drop h hi
  simp at this
  rw [decide_eq_true this]; rfl
 ·rw [ah_drop h]
  simp [List.isPrefixOf]
end Go.Proofs.YtdjcgjkbecncaaaGreatDoor
namespace Go.Proofs.YtdjcgjkbecncaaaGreatDoor
open Go.RowKit Go.Lib
theorem cnt_zero {F : Nat → Bool} : ∀ {n : Nat}, cnt F n = 0 → ∀ i, i < n → F i = false
 | 0, _, i, hi => by omega
 | n + 1, h, i, hi => by
  have e := cnt_add F n 1
  rw [h] at e
  by_cases hin : i = n
  ·subst hin
   have : cnt (fun j => F (i + j)) 1 = 0 := by omega
   simpa [cnt] using this
  ·exact cnt_zero (n := n) (by omega) i (by omega)
theorem cnt_full {F : Nat → Bool} {n : Nat} (h : cnt F n = n) (i : Nat) (hi : i < n) : F i = true := by
 have := cnt_not F n
 have := cnt_zero (F := fun i => !F i) (n := n) (by omega) i hi
 simpa using this
theorem wdNone (k : Nat) : wd (fun _ => false) k = 0 := by
 refine (wd_ext (f := fun _ => false) (k := k) (x := 0) (by omega) (fun i hi => by simp)).symm
inductive Tk where
 | one (c : UInt8)
 | nl
 | rng (a b : UInt8)
def Tk.txt : Tk → List UInt8
 | one c => [c]
 | nl => [92, 110]
 | rng a b => [a, 45, b]
def Tk.set : Tk → Nat → Bool
 | one c => rg c.toNat c.toNat
 | nl => rg 10 10
 | rng a b => rg a.toNat b.toNat
def txts (ts : List Tk) : List UInt8 := ts.flatMap Tk.txt
def FC (y : List UInt8) : Prop := ∀ c z, y = c :: z → c = 45 → ∃ v, z = 93 :: v
def Tk.Ok (first : Bool) : Tk → List UInt8 → Prop
 | one c, y => FC y ∧ (c = 93 → first = true) ∧ (c = 45 → first = true ∨ ∃ v, y = 93 :: v) ∧ (c = 91 → ∀ d z, y = d :: z → d ≠ 46 ∧ d ≠ 58 ∧ d ≠ 61) ∧ (c = 92 → ∀ d z, y = d :: z → d ≠ 110)
 | nl, y => FC y
 | rng a b, y => (a ≠ 91 ∧ a ≠ 92 ∧ a ≠ 45 ∧ a ≠ 93) ∧ (b ≠ 91 ∧ b ≠ 92 ∧ b ≠ 45 ∧ b ≠ 93) ∧ a.toNat ≤ b.toNat
theorem FC.tail {s : List UInt8} {k : Nat} {y : List UInt8} (h : FC y) (hd : s.drop k = y) : (ah s k [45, 93] || !ah s k [45]) = true := by
 rw [ah_drop hd, ah_drop hd]
 cases y with
 | nil => rfl
 | cons c z =>
  by_cases e : c = 45
  ·obtain ⟨v, rfl⟩ := h c z rfl e
   subst e
   simp [List.isPrefixOf]
  ·simp [List.isPrefixOf]
   exact .inr (fun q => e q.symm)
theorem pre2_no {a b c : UInt8} {y : List UInt8} (h : a ≠ c ∨ ∀ d z, y = d :: z → b ≠ d) : ([a, b] : List UInt8).isPrefixOf (c :: y) = false := by
 cases y with
 | nil => simp [List.isPrefixOf]
 | cons d z =>
  simp [List.isPrefixOf]
  rcases h with h | h
  ·exact fun e => absurd e h
  ·exact fun _ => h d z rfl
theorem part_tok {s : List UInt8} {i : Nat} {first : Bool} {t : Tk} {y : List UInt8} (ht : t.Ok first y) (h : s.drop i = t.txt ++ y) : partP s i first = some (t.set, i + t.txt.length) := by
 cases t with
 | one c =>
  obtain ⟨hf, h93, h45, h91, h92⟩ := ht
  have hd : s.drop i = c :: y := h
  have p1 : ah s i [91, 58] = false := by
   rw [ah_drop hd]
   exact pre2_no (by
    by_cases e : c = 91
    ·exact .inr (fun d z q => ((h91 e d z q).2.1).symm)
    ·exact .inl (fun q => e q.symm))
  have p2 : ah s i [91, 61] = false := by
   rw [ah_drop hd]
   exact pre2_no (by
    by_cases e : c = 91
    ·exact .inr (fun d z q => ((h91 e d z q).2.2).symm)
    ·exact .inl (fun q => e q.symm))
  have p3 : ah s i [91, 46] = false := by
   rw [ah_drop hd]
   exact pre2_no (by
    by_cases e : c = 91
    ·exact .inr (fun d z q => ((h91 e d z q).1).symm)
    ·exact .inl (fun q => e q.symm))
  have p4 : ah s i [92, 110] = false := by
   rw [ah_drop hd]
   exact pre2_no (by
    by_cases e : c = 92
    ·exact .inr (fun d z q => (h92 e d z q).symm)
    ·exact .inl (fun q => e q.symm))
  have p5 : (ah s i [45] && !first && !ah s i [45, 93]) = false := by
   by_cases e : c = 45
   ·rcases h45 e with q | ⟨v, q⟩
    ·rw [q]; simp
    ·have : ah s i [45, 93] = true := by rw [ah_drop hd, q, e]; simp [List.isPrefixOf]
     rw [this]; simp
   ·have : ah s i [45] = false := by
     rw [ah_drop hd]
     simp [List.isPrefixOf]
     exact fun q => e q.symm
    rw [this]; rfl
  have ho : oneP s i = some (c, i + 1) := by
   unfold oneP
   rw [p1, p2, p3, p4, atDrop hd]
   rfl
  unfold partP tailP
  rw [p1, p2, p5, ho]
  simp only [Bool.false_eq_true, if_false]
  rw [FC.tail hf (drop_cons hd)]
  rfl
 | nl =>
  have hd : s.drop i = 92 :: 110 :: y := h
  have p1 : ah s i [91, 58] = false := by rw [ah_drop hd]; rfl
  have p2 : ah s i [91, 61] = false := by rw [ah_drop hd]; rfl
  have p3 : ah s i [91, 46] = false := by rw [ah_drop hd]; rfl
  have p4 : ah s i [92, 110] = true := by rw [ah_drop hd]; simp [List.isPrefixOf]
  have p5 : ah s i [45] = false := by rw [ah_drop hd]; rfl
  have ho : oneP s i = some (10, i + 2) := by
   unfold oneP
   rw [p3, p4]
   rfl
  unfold partP tailP
  rw [p1, p2, p5, ho]
  simp only [Bool.false_and, Bool.false_eq_true, if_false]
  rw [FC.tail (k := i + 2) ht (drop_step (x := [92, 110]) hd)]
  rfl
 | rng a b =>
  obtain ⟨⟨a1, a2, a3, a4⟩, ⟨b1, b2, b3, b4⟩, hle⟩ := ht
  have hd : s.drop i = a :: (45 :: b :: y) := h
  have hd1 : s.drop (i + 1) = 45 :: b :: y := drop_cons hd
  have hd2 : s.drop (i + 2) = b :: y := drop_cons hd1
  have p1 : ah s i [91, 58] = false := by rw [ah_drop hd]; exact pre2_no (.inl (fun q => a1 q.symm))
  have p2 : ah s i [91, 61] = false := by rw [ah_drop hd]; exact pre2_no (.inl (fun q => a1 q.symm))
  have p3 : ah s i [91, 46] = false := by rw [ah_drop hd]; exact pre2_no (.inl (fun q => a1 q.symm))
  have p4 : ah s i [92, 110] = false := by rw [ah_drop hd]; exact pre2_no (.inl (fun q => a2 q.symm))
  have p5 : ah s i [45] = false := by
   rw [ah_drop hd]
   simp [List.isPrefixOf]
   exact fun q => a3 q.symm
  have ho : oneP s i = some (a, i + 1) := by
   unfold oneP
   rw [p1, p2, p3, p4, atDrop hd]
   rfl
  have q1 : ah s (i + 2) [91, 58] = false := by rw [ah_drop hd2]; exact pre2_no (.inl (fun q => b1 q.symm))
  have q2 : ah s (i + 2) [91, 61] = false := by rw [ah_drop hd2]; exact pre2_no (.inl (fun q => b1 q.symm))
  have q3 : ah s (i + 2) [91, 46] = false := by rw [ah_drop hd2]; exact pre2_no (.inl (fun q => b1 q.symm))
  have q4 : ah s (i + 2) [92, 110] = false := by rw [ah_drop hd2]; exact pre2_no (.inl (fun q => b2 q.symm))
  have ho2 : oneP s (i + 1 + 1) = some (b, i + 3) := by
   show oneP s (i + 2) = _
   unfold oneP
   rw [q1, q2, q3, q4, atDrop hd2]
   rfl
  have t1 : ah s (i + 1) [45, 93] = false := by
   rw [ah_drop hd1]
   exact pre2_no (.inr (fun d z e => by cases e; exact fun q => b4 q.symm))
  have t2 : ah s (i + 1) [45] = true := by rw [ah_drop hd1]; simp [List.isPrefixOf]
  unfold partP tailP
  rw [p1, p2, p5, ho]
  simp only [Bool.false_and, Bool.false_eq_true, if_false]
  rw [t1, t2]
  simp only [Bool.not_true, Bool.or_false, Bool.false_eq_true, if_false]
  rw [ho2]
  simp only
  rw [if_neg (by omega)]
  rfl
def Oks : Bool → List Tk → List UInt8 → Prop
 | _, [], _ => True
 | first, t :: ts, y => t.Ok first (txts ts ++ y) ∧ Oks false ts y
def setL (F : Nat → Bool) : List Tk → Nat → Bool
 | [] => F
 | t :: ts => setL (fun j => F j || t.set j) ts
theorem setL_any (ts : List Tk) : ∀ (F : Nat → Bool) (j : Nat), setL F ts j = (F j || ts.any fun t => t.set j) := by
 induction ts with
 | nil => intro F j; simp [setL]
 | cons t ts ih =>
  intro F j
  rw [setL, ih]
  simp [Bool.or_assoc]
theorem tok_len (t : Tk) : 1 ≤ t.txt.length := by cases t <;> simp [Tk.txt]
theorem tok_ne93 {t : Tk} {y : List UInt8} (h : t.Ok false y) {s : List UInt8} {i : Nat} (hd : s.drop i = t.txt ++ y) : ah s i [93] = false := by
 cases t with
 | one c =>
  have hd : s.drop i = c :: y := hd
  rw [ah_drop hd]
  simp [List.isPrefixOf]
  intro e
  exact absurd (h.2.1 e.symm) (by decide)
 | nl =>
  have hd : s.drop i = 92 :: 110 :: y := hd
  rw [ah_drop hd]; rfl
 | rng a b =>
  have hd : s.drop i = a :: (45 :: b :: y) := hd
  rw [ah_drop hd]
  simp [List.isPrefixOf]
  exact fun e => h.1.2.2.2 e.symm
theorem rest_toks {s : List UInt8} {y : List UInt8} : ∀ (ts : List Tk) (i f : Nat) (F : Nat → Bool), Oks false ts (93 :: y) → s.drop i = txts ts ++ 93 :: y → ts.length < f → restP s f i F = some (setL F ts, i + (txts ts).length + 1)
 | [], i, 0, F, ho, h, hf => by omega
 | [], i, f + 1, F, ho, h, hf => by
  have hd : s.drop i = 93 :: y := h
  rw [restP, ah_drop hd]
  simp [List.isPrefixOf, setL, txts]
 | t :: ts, i, 0, F, ho, h, hf => by omega
 | t :: ts, i, f + 1, F, ho, h, hf => by
  have e : txts (t :: ts) = t.txt ++ txts ts := by simp [txts]
  rw [e, List.append_assoc] at h
  rw [restP, tok_ne93 ho.1 h, part_tok ho.1 h]
  simp only [Bool.false_eq_true, if_false]
  rw [rest_toks ts _ f _ ho.2 (drop_step h) (by simpa using hf), setL, e, List.length_append]
  congr 2
  omega
theorem toks_len (ts : List Tk) : ts.length ≤ (txts ts).length := by
 induction ts with
 | nil => simp
 | cons t ts ih =>
  have := tok_len t
  have e : txts (t :: ts) = t.txt ++ txts ts := by simp [txts]
  rw [e, List.length_append, List.length_cons]
  omega
theorem brk_toks {t : Tk} {ts : List Tk} {y : List UInt8} (ho : Oks true (t :: ts) (93 :: y)) (h94 : ∀ d z, t.txt = d :: z → d ≠ 94) (hne : noneIn (setL t.set ts) = false) :
  brkP ([91] ++ txts (t :: ts) ++ [93] ++ y) = some (setL t.set ts, ([91] ++ txts (t :: ts) ++ [93]).length) := by
 obtain ⟨s, hs⟩ : ∃ s, s = [91] ++ txts (t :: ts) ++ [93] ++ y := ⟨_, rfl⟩
 have e : txts (t :: ts) = t.txt ++ txts ts := by simp [txts]
 have h0 : s.drop 0 = 91 :: (t.txt ++ (txts ts ++ 93 :: y)) := by rw [hs, e]; simp
 have h1 : s.drop 1 = t.txt ++ (txts ts ++ 93 :: y) := drop_cons h0
 have a0 : ah s 0 [91] = true := by rw [ah_drop h0]; simp [List.isPrefixOf]
 have a1 : ah s 1 [94] = false := by
  rw [ah_drop h1]
  cases hc : t.txt with
  | nil => have := tok_len t; rw [hc] at this; simp at this
  | cons d z =>
   simp [List.isPrefixOf]
   exact fun q => h94 d z hc q.symm
 have hsk : sk s 1 [94] = 1 := by unfold sk; rw [a1]; rfl
 have hl : ts.length < s.length + 1 := by
  have := toks_len (t :: ts)
  have : s.length = 1 + (txts (t :: ts)).length + 1 + y.length := by rw [hs]; simp; omega
  simp only [List.length_cons] at *
  omega
 rw [← hs]
 unfold brkP
 rw [a0, hsk, part_tok ho.1 h1]
 simp only [Bool.not_true, Bool.false_eq_true, if_false]
 rw [rest_toks ts _ _ _ ho.2 (drop_step h1) hl]
 simp only [a1, Bool.false_eq_true, if_false, hne]
 rw [e]
 simp
 omega
end Go.Proofs.YtdjcgjkbecncaaaGreatDoor
namespace Go.Proofs.YtdjcgjkbecncaaaGreatDoor
open Go.RowKit Go.Lib
/-! The bytes of a set rise. -/
theorem U_mem {F : Nat → Bool} : ∀ (n : Nat), ∀ x ∈ U F n, x.1 < n
 | 0, x, h => by simp [U] at h
 | n + 1, x, h => by
  rw [U] at h
  split at h
  ·rcases List.mem_append.1 h with q | q
   ·have := U_mem n x q; omega
   ·rw [List.mem_singleton.1 q]; exact Nat.lt_succ_self n
  ·have := U_mem n x h; omega
theorem U_rises {F : Nat → Bool} : ∀ (n : Nat), (U F n).Pairwise fun a b => a.1 < b.1
 | 0 => by simp [U]
 | n + 1 => by
  rw [U]
  split
  ·rw [List.pairwise_append]
   refine ⟨U_rises n, by simp, fun a ha b hb => ?_⟩
   rw [List.mem_singleton.1 hb]
   exact U_mem n a ha
  ·exact U_rises n
def Rises (l : List UInt8) : Prop := l.Pairwise fun a b => a.toNat < b.toNat
theorem bytesL_rises (F : Nat → Bool) : Rises (bytesL F) := by
 unfold Rises bytesL
 rw [bytesOf_list, List.pairwise_map]
 refine (U_rises 256).imp (fun {a b} h => ?_)
 have := a.2; have := b.2
 rw [UInt8.toNat_ofNat', UInt8.toNat_ofNat']
 omega
def inL (l : List UInt8) (j : Nat) : Bool := l.any fun x => x.toNat == j
theorem inL_bytes (F : Nat → Bool) (j : Nat) (hj : j < 256) : inL (bytesL F) j = F j := by
 have h := inS_bytesOf F j hj
 unfold inS at h
 have e : (bytesOf F).size = (bytesOf F).data.toList.length := by simp
 rw [e, List.take_length] at h
 exact h
theorem inL_app (a b : List UInt8) (j : Nat) : inL (a ++ b) j = (inL a j || inL b j) := by unfold inL; rw [List.any_append]
/-! Runs. -/
theorem run_get : ∀ (l : List UInt8), Rises l → ∀ (k : Nat), k < runLen l → ∃ a b, l[0]? = some a ∧ l[k]? = some b ∧ b.toNat = a.toNat + k
 | [], _, k, h => by simp [runLen] at h
 | [a], _, k, h => by
  simp [runLen] at h
  subst h
  exact ⟨a, a, rfl, rfl, rfl⟩
 | a :: b :: l, hr, k, h => by
  cases k with
  | zero => exact ⟨a, a, rfl, rfl, rfl⟩
  | succ k =>
   simp only [runLen] at h
   split at h
   ·rename_i e
    have hr2 : Rises (b :: l) := (List.pairwise_cons.1 hr).2
    have hab : a.toNat < b.toNat := (List.pairwise_cons.1 hr).1 b (by simp)
    obtain ⟨a', b', h1, h2, h3⟩ := run_get (b :: l) hr2 k (by omega)
    cases h1
    refine ⟨a, b', rfl, h2, ?_⟩
    have hb : b.toNat = a.toNat + 1 := by
     have := a.toNat_lt
     rw [e, UInt8.toNat_add] at hab ⊢
     have e1 : UInt8.toNat 1 = 1 := rfl
     rw [e1] at hab ⊢
     omega
    omega
   ·omega
def runToks : Nat → List UInt8 → List Tk
 | 0, _ => []
 | _ + 1, [] => []
 | f + 1, c :: l => (if runLen (c :: l) < 3 then ((c :: l).take (runLen (c :: l))).map Tk.one else (((c :: l).drop (runLen (c :: l) - 1)).take 1).map (Tk.rng c)) ++ runToks f ((c :: l).drop (runLen (c :: l)))
theorem txts_app (a b : List Tk) : txts (a ++ b) = txts a ++ txts b := by simp [txts]
theorem txts_ones (l : List UInt8) : txts (l.map Tk.one) = l := by
 induction l with
 | nil => rfl
 | cons a l ih => simp [txts, Tk.txt] at ih ⊢; exact ih
theorem last_one (c : UInt8) (l : List UInt8) : ∃ b, (c :: l)[runLen (c :: l) - 1]? = some b ∧ ((c :: l).drop (runLen (c :: l) - 1)).take 1 = [b] := by
 have h1 := runLen_pos c l
 have h2 := runLen_le (c :: l)
 have hk : runLen (c :: l) - 1 < (c :: l).length := by omega
 refine ⟨(c :: l)[runLen (c :: l) - 1], List.getElem?_eq_getElem hk, ?_⟩
 rw [List.drop_eq_getElem_cons hk]
 rfl
theorem runToks_txt : ∀ (f : Nat) (l : List UInt8), txts (runToks f l) = runsP f l
 | 0, _ => rfl
 | _ + 1, [] => rfl
 | f + 1, c :: l => by
  rw [runToks, runsP, txts_app, runToks_txt f]
  congr 1
  split
  ·exact txts_ones _
  ·obtain ⟨b, _, hb⟩ := last_one c l
   rw [hb]
   simp [txts, Tk.txt]
theorem ones_set (l : List UInt8) (j : Nat) : ((l.map Tk.one).any fun t => t.set j) = inL l j := by
 induction l with
 | nil => rfl
 | cons a l ih =>
  rw [List.map_cons, List.any_cons, ih]
  unfold inL
  rw [List.any_cons]
  congr 1
  show (decide (a.toNat ≤ j) && decide (j ≤ a.toNat)) = (a.toNat == j)
  rw [Bool.eq_iff_iff, Bool.and_eq_true, decide_eq_true_iff, decide_eq_true_iff, beq_iff_eq]
  omega
theorem run_set (l : List UInt8) (hr : Rises l) (a b : UInt8) (h0 : l[0]? = some a) (h1 : 1 ≤ runLen l) (hb : l[runLen l - 1]? = some b) (j : Nat) : rg a.toNat b.toNat j = inL (l.take (runLen l)) j := by
 obtain ⟨a', b', e1, e2, e3⟩ := run_get l hr (runLen l - 1) (by omega)
 rw [h0] at e1; cases e1
 rw [hb] at e2; cases e2
 unfold rg inL
 rw [Bool.eq_iff_iff]
 simp only [Bool.and_eq_true, decide_eq_true_iff, List.any_eq_true, beq_iff_eq]
 constructor
 ·rintro ⟨q1, q2⟩
  obtain ⟨a2, c, f1, f2, f3⟩ := run_get l hr (j - a.toNat) (by omega)
  rw [h0] at f1; cases f1
  refine ⟨c, ?_, by omega⟩
  have : (l.take (runLen l))[j - a.toNat]? = some c := by rw [List.getElem?_take_of_lt (by omega)]; exact f2
  exact List.mem_of_getElem? this
 ·rintro ⟨c, hc, rfl⟩
  obtain ⟨k, hk, e⟩ := List.mem_iff_getElem.1 hc
  have hk' : k < runLen l := by rw [List.length_take] at hk; omega
  obtain ⟨a2, c2, f1, f2, f3⟩ := run_get l hr k hk'
  rw [h0] at f1; cases f1
  have : (l.take (runLen l))[k]? = some c := by rw [List.getElem?_eq_getElem hk, e]
  rw [List.getElem?_take_of_lt hk', f2] at this
  cases this
  omega
theorem rises_drop {l : List UInt8} (h : Rises l) (k : Nat) : Rises (l.drop k) := h.sublist (List.drop_sublist k l)
theorem runToks_set : ∀ (f : Nat) (l : List UInt8), Rises l → l.length < f → ∀ j, ((runToks f l).any fun t => t.set j) = inL l j
 | 0, l, _, hf, j => by omega
 | _ + 1, [], _, _, j => rfl
 | f + 1, c :: l, hr, hf, j => by
  have h1 := runLen_pos c l
  have hd : ((c :: l).drop (runLen (c :: l))).length < f := by rw [List.length_drop]; simp only [List.length_cons] at *; omega
  rw [runToks, List.any_append, runToks_set f _ (rises_drop hr _) hd j]
  conv => rhs; rw [← List.take_append_drop (runLen (c :: l)) (c :: l)]
  rw [inL_app]
  congr 1
  split
  ·exact ones_set _ j
  ·obtain ⟨b, hb, hb2⟩ := last_one c l
   rw [hb2]
   have := run_set (c :: l) hr c b rfl h1 hb j
   simpa [Tk.set] using this
def Plain (c : UInt8) : Prop := c ≠ 91 ∧ c ≠ 92 ∧ c ≠ 45 ∧ c ≠ 93 ∧ c ≠ 94 ∧ c ≠ 10
def Begins (P : UInt8 → Prop) (y : List UInt8) : Prop := ∀ d z, y = d :: z → P d
theorem plain_one {c : UInt8} (hc : Plain c) {first : Bool} {y : List UInt8} (hy : FC y) : (Tk.one c).Ok first y :=
 ⟨hy, fun e => absurd e hc.2.2.2.1, fun e => absurd e hc.2.2.1, fun e => absurd e hc.1, fun e => absurd e hc.2.1⟩
theorem fc_plain {c : UInt8} (hc : c ≠ 45) (z : List UInt8) : FC (c :: z) := fun d v e q => by cases e; exact absurd q hc
theorem oks_ones (y : List UInt8) (hy : FC y) : ∀ (l : List UInt8), (∀ c ∈ l, Plain c) → Oks false (l.map Tk.one) y ∧ FC (l ++ y)
 | [], h => ⟨trivial, hy⟩
 | c :: l, h => by
  obtain ⟨a, b⟩ := oks_ones y hy l (fun c hc => h c (by simp [hc]))
  refine ⟨⟨?_, a⟩, fc_plain (h c (by simp)).2.2.1 _⟩
  rw [txts_ones]
  exact plain_one (h c (by simp)) b
theorem oks_app {a b : List Tk} {y : List UInt8} : ∀ {first : Bool}, Oks first a (txts b ++ y) → Oks false b y → a ≠ [] → Oks first (a ++ b) y := by
 induction a with
 | nil => intro first _ _ h; exact absurd rfl h
 | cons t ts ih =>
  intro first h1 h2 _
  refine ⟨by show Tk.Ok first t (txts (ts ++ b) ++ y); rw [txts_app, List.append_assoc]; exact h1.1, ?_⟩
  by_cases e : ts = []
  ·subst e; exact h2
  ·exact ih h1.2 h2 e
theorem oks_app' {a b : List Tk} {y : List UInt8} (h1 : Oks false a (txts b ++ y)) (h2 : Oks false b y) : Oks false (a ++ b) y := by
 by_cases e : a = []
 ·subst e; exact h2
 ·exact oks_app h1 h2 e
theorem oks_runs (y : List UInt8) (hy : FC y) : ∀ (f : Nat) (l : List UInt8), Rises l → l.length < f → (∀ c ∈ l, Plain c) → Oks false (runToks f l) y ∧ FC (txts (runToks f l) ++ y)
 | 0, l, _, hf, _ => by omega
 | _ + 1, [], _, _, _ => ⟨trivial, hy⟩
 | f + 1, c :: l, hr, hf, hp => by
  have h1 := runLen_pos c l
  have hd : ((c :: l).drop (runLen (c :: l))).length < f := by rw [List.length_drop]; simp only [List.length_cons] at *; omega
  obtain ⟨a, b⟩ := oks_runs y hy f _ (rises_drop hr _) hd (fun d hd => hp d (List.mem_of_mem_drop hd))
  rw [runToks]
  split
  ·obtain ⟨p, q⟩ := oks_ones _ b ((c :: l).take (runLen (c :: l))) (fun d hd => hp d (List.mem_of_mem_take hd))
   refine ⟨oks_app' p a, ?_⟩
   rw [txts_app, txts_ones, List.append_assoc]
   exact q
  ·obtain ⟨b', hb, hb2⟩ := last_one c l
   rw [hb2]
   have hcp := hp c (by simp)
   have hbp := hp b' (List.mem_of_getElem? hb)
   have hle : c.toNat ≤ b'.toNat := by
    obtain ⟨a2, b2, e1, e2, e3⟩ := run_get (c :: l) hr (runLen (c :: l) - 1) (by omega)
    cases e1
    rw [hb] at e2; cases e2
    omega
   refine ⟨oks_app' (a := [Tk.rng c b']) ⟨⟨⟨hcp.1, hcp.2.1, hcp.2.2.1, hcp.2.2.2.1⟩, ⟨hbp.1, hbp.2.1, hbp.2.2.1, hbp.2.2.2.1⟩, hle⟩, trivial⟩ a, ?_⟩
   show FC (c :: _)
   exact fc_plain hcp.2.2.1 _
end Go.Proofs.YtdjcgjkbecncaaaGreatDoor
namespace Go.Proofs.YtdjcgjkbecncaaaGreatDoor
open Go.RowKit Go.Lib
theorem ok_true {t : Tk} {y : List UInt8} (h : t.Ok false y) : t.Ok true y := by
 cases t with
 | one c => exact ⟨h.1, fun _ => rfl, fun _ => .inl rfl, h.2.2.2.1, h.2.2.2.2⟩
 | nl => exact h
 | rng a b => exact h
theorem oks_true {ts : List Tk} {y : List UInt8} (h : Oks false ts y) : Oks true ts y := by
 cases ts with
 | nil => trivial
 | cons t ts => exact ⟨ok_true h.1, h.2⟩
def opt (b : Bool) (t : Tk) : List Tk := if b then [t] else []
theorem opt_any (b : Bool) (t : Tk) (j : Nat) : ((opt b t).any fun t => t.set j) = (b && t.set j) := by cases b <;> simp [opt]
theorem oks_opt {b : Bool} {t : Tk} {E : List Tk} {y : List UInt8} (ht : b = true → t.Ok false (txts E ++ y)) (hE : Oks false E y) : Oks false (opt b t ++ E) y := by
 cases b with
 | true => exact ⟨ht rfl, hE⟩
 | false => exact hE
theorem fc_opt {b : Bool} {t : Tk} {Y : List UInt8} (ht : ∀ d z, t.txt = d :: z → d ≠ 45) (hY : FC Y) : FC (txts (opt b t) ++ Y) := by
 cases b with
 | true =>
  intro d z e q
  cases hc : t.txt with
  | nil => have := tok_len t; rw [hc] at this; simp at this
  | cons c v =>
   have : d = c := by
    simp [opt, txts, hc] at e
    exact e.1.symm
   exact absurd (this ▸ q) (ht c v hc)
 | false => exact hY
theorem begins_opt {P : UInt8 → Prop} {b : Bool} {t : Tk} {Y : List UInt8} (ht : ∀ d z, t.txt = d :: z → P d) (hY : Begins P Y) : Begins P (txts (opt b t) ++ Y) := by
 cases b with
 | true =>
  intro d z e
  cases hc : t.txt with
  | nil => have := tok_len t; rw [hc] at this; simp at this
  | cons c v =>
   have : d = c := by
    simp [opt, txts, hc] at e
    exact e.1.symm
   rw [this]
   exact ht c v hc
 | false => exact hY
theorem onlyP_opt (F : Nat → Bool) (c : Nat) (t : Tk) : onlyP F c t.txt = txts (opt (F c) t) := by
 unfold onlyP opt
 split <;> simp [txts]
def E1 (F : Nat → Bool) : List Tk := opt (F 45) (.one 45)
def E2 (F : Nat → Bool) : List Tk := opt (F 94) (.one 94) ++ E1 F
def E3 (F : Nat → Bool) : List Tk := opt (F 92) (.one 92) ++ E2 F
def E4 (F : Nat → Bool) : List Tk := opt (F 91) (.one 91) ++ E3 F
def E5 (F : Nat → Bool) : List Tk := opt (F 10) .nl ++ E4 F
def E6 (F : Nat → Bool) : List Tk := runToks 257 (bytesL (leftF F)) ++ E5 F
def E7 (F : Nat → Bool) : List Tk := opt (F 93) (.one 93) ++ E6 F
theorem E7_txt (F : Nat → Bool) (h : hatDash F = false) : listP F = txts (E7 F) := by
 unfold listP
 rw [h]
 simp only [Bool.false_eq_true, if_false]
 rw [show ([93] : List UInt8) = (Tk.one 93).txt from rfl, show ([92, 110] : List UInt8) = Tk.nl.txt from rfl, show ([91] : List UInt8) = (Tk.one 91).txt from rfl, show ([92] : List UInt8) = (Tk.one 92).txt from rfl, show ([94] : List UInt8) = (Tk.one 94).txt from rfl, show ([45] : List UInt8) = (Tk.one 45).txt from rfl]
 rw [onlyP_opt, onlyP_opt, onlyP_opt, onlyP_opt, onlyP_opt, onlyP_opt, ← runToks_txt]
 simp only [E7, E6, E5, E4, E3, E2, E1, txts_app, List.append_assoc]
theorem aside_eq (j : Nat) : inS ⟨#[93, 91, 92, 94, 45, 10]⟩ 6 j = (j == 93 || j == 91 || j == 92 || j == 94 || j == 45 || j == 10) := by
 rw [Bool.eq_iff_iff]
 simp [inS]
 omega
theorem left_plain (F : Nat → Bool) : ∀ c ∈ bytesL (leftF F), Plain c := fun c hc => by
 have hcl := c.toNat_lt
 have h : inL (bytesL (leftF F)) c.toNat = true := by
  unfold inL
  rw [List.any_eq_true]
  exact ⟨c, hc, by simp⟩
 rw [inL_bytes _ _ (by omega)] at h
 unfold leftF at h
 rw [aside_eq, Bool.and_eq_true] at h
 have h2 := h.2
 simp only [Bool.not_eq_true', Bool.or_eq_false_iff, beq_eq_false_iff_ne] at h2
 have z : ∀ d : UInt8, c.toNat ≠ d.toNat → c ≠ d := fun d q e => q (congrArg UInt8.toNat e)
 exact ⟨z 91 h2.1.1.1.1.2, z 92 h2.1.1.1.2, z 45 h2.1.2, z 93 h2.1.1.1.1.1, z 94 h2.1.1.2, z 10 h2.2⟩
theorem E7_set (F : Nat → Bool) (j : Nat) (hj : j < 256) : ((E7 F).any fun t => t.set j) = F j := by
 have hl : (bytesL (leftF F)).length < 257 := by
  have := bytesL_len (leftF F)
  have := cnt_le (leftF F) 256
  omega
 simp only [E7, E6, E5, E4, E3, E2, E1, List.any_append, opt_any, runToks_set 257 _ (bytesL_rises _) hl, inL_bytes _ j hj]
 unfold leftF
 rw [aside_eq]
 have hs : ∀ c : UInt8, (Tk.one c).set j = (j == c.toNat) := fun c => by
  show (decide (c.toNat ≤ j) && decide (j ≤ c.toNat)) = _
  rw [Bool.eq_iff_iff, Bool.and_eq_true, decide_eq_true_iff, decide_eq_true_iff, beq_iff_eq]
  omega
 have hn : Tk.nl.set j = (j == 10) := hs 10
 rw [hs, hs, hs, hs, hs, hn]
 simp only [show UInt8.toNat 93 = 93 from rfl, show UInt8.toNat 91 = 91 from rfl, show UInt8.toNat 92 = 92 from rfl, show UInt8.toNat 94 = 94 from rfl, show UInt8.toNat 45 = 45 from rfl]
 by_cases e1 : j = 93
 ·subst e1; cases F 93 <;> simp
 by_cases e2 : j = 91
 ·subst e2; cases F 91 <;> simp
 by_cases e3 : j = 92
 ·subst e3; cases F 92 <;> simp
 by_cases e4 : j = 94
 ·subst e4; cases F 94 <;> simp
 by_cases e5 : j = 45
 ·subst e5; cases F 45 <;> simp
 by_cases e6 : j = 10
 ·subst e6; cases F 10 <;> simp
 have b1 : (j == 93) = false := beq_eq_false_iff_ne.2 e1
 have b2 : (j == 91) = false := beq_eq_false_iff_ne.2 e2
 have b3 : (j == 92) = false := beq_eq_false_iff_ne.2 e3
 have b4 : (j == 94) = false := beq_eq_false_iff_ne.2 e4
 have b5 : (j == 45) = false := beq_eq_false_iff_ne.2 e5
 have b6 : (j == 10) = false := beq_eq_false_iff_ne.2 e6
 simp [b1, b2, b3, b4, b5, b6]
theorem E7_oks (F : Nat → Bool) (y : List UInt8) : Oks true (E7 F) (93 :: y) := by
 have f0 : FC (93 :: y) := fc_plain (by decide) _
 have o1 : Oks false (E1 F) (93 :: y) := by
  have := oks_opt (b := F 45) (t := .one 45) (E := []) (y := 93 :: y) (fun _ => ⟨f0, fun e => absurd e (by decide), fun _ => .inr ⟨y, rfl⟩, fun e => absurd e (by decide), fun e => absurd e (by decide)⟩) trivial
  simpa [E1] using this
 have f1 : FC (txts (E1 F) ++ 93 :: y) := by
  unfold E1
  cases F 45 with
  | true => intro d z e q; simp [opt, txts, Tk.txt] at e; exact ⟨y, e.2.symm⟩
  | false => exact f0
 have b0 : Begins (fun d => d ≠ 46 ∧ d ≠ 58 ∧ d ≠ 61 ∧ d ≠ 110) (93 :: y) := fun d z e => by cases e; decide
 have ht : ∀ (c : UInt8), (c ≠ 46 ∧ c ≠ 58 ∧ c ≠ 61 ∧ c ≠ 110) → ∀ d z, (Tk.one c).txt = d :: z → d ≠ 46 ∧ d ≠ 58 ∧ d ≠ 61 ∧ d ≠ 110 := fun c h d z e => by cases e; exact h
 have hq : ∀ (c : UInt8), c ≠ 45 → ∀ d z, (Tk.one c).txt = d :: z → d ≠ 45 := fun c h d z e => by cases e; exact h
 have b1 : Begins (fun d => d ≠ 46 ∧ d ≠ 58 ∧ d ≠ 61 ∧ d ≠ 110) (txts (E1 F) ++ 93 :: y) := begins_opt (ht 45 (by decide)) b0
 have o2 : Oks false (E2 F) (93 :: y) := oks_opt (fun _ => ⟨f1, fun e => absurd e (by decide), fun e => absurd e (by decide), fun e => absurd e (by decide), fun e => absurd e (by decide)⟩) o1
 have f2 : FC (txts (E2 F) ++ 93 :: y) := by
  unfold E2; rw [txts_app, List.append_assoc]; exact fc_opt (hq 94 (by decide)) f1
 have b2 : Begins (fun d => d ≠ 46 ∧ d ≠ 58 ∧ d ≠ 61 ∧ d ≠ 110) (txts (E2 F) ++ 93 :: y) := by
  unfold E2; rw [txts_app, List.append_assoc]; exact begins_opt (ht 94 (by decide)) b1
 have o3 : Oks false (E3 F) (93 :: y) := oks_opt (fun _ => ⟨f2, fun e => absurd e (by decide), fun e => absurd e (by decide), fun e => absurd e (by decide), fun _ d z e => (b2 d z e).2.2.2⟩) o2
 have f3 : FC (txts (E3 F) ++ 93 :: y) := by
  unfold E3; rw [txts_app, List.append_assoc]; exact fc_opt (hq 92 (by decide)) f2
 have b3 : Begins (fun d => d ≠ 46 ∧ d ≠ 58 ∧ d ≠ 61 ∧ d ≠ 110) (txts (E3 F) ++ 93 :: y) := by
  unfold E3; rw [txts_app, List.append_assoc]; exact begins_opt (ht 92 (by decide)) b2
 have o4 : Oks false (E4 F) (93 :: y) := oks_opt (fun _ => ⟨f3, fun e => absurd e (by decide), fun e => absurd e (by decide), fun _ d z e => ⟨(b3 d z e).1, (b3 d z e).2.1, (b3 d z e).2.2.1⟩, fun e => absurd e (by decide)⟩) o3
 have f4 : FC (txts (E4 F) ++ 93 :: y) := by
  unfold E4; rw [txts_app, List.append_assoc]; exact fc_opt (hq 91 (by decide)) f3
 have o5 : Oks false (E5 F) (93 :: y) := oks_opt (fun _ => f4) o4
 have f5 : FC (txts (E5 F) ++ 93 :: y) := by
  unfold E5; rw [txts_app, List.append_assoc]; exact fc_opt (fun d z e => by cases e; decide) f4
 have hl : (bytesL (leftF F)).length < 257 := by
  have := bytesL_len (leftF F)
  have := cnt_le (leftF F) 256
  omega
 obtain ⟨p, q⟩ := oks_runs _ f5 257 _ (bytesL_rises _) hl (left_plain F)
 have o6 : Oks false (E6 F) (93 :: y) := oks_app' p o5
 have f6 : FC (txts (E6 F) ++ 93 :: y) := by
  unfold E6; rw [txts_app, List.append_assoc]; exact q
 unfold E7
 cases F 93 with
 | true => exact ⟨⟨f6, fun _ => rfl, fun e => absurd e (by decide), fun e => absurd e (by decide), fun e => absurd e (by decide)⟩, o6⟩
 | false => exact oks_true o6
theorem hat_iff {F : Nat → Bool} (h : ∀ i, i < 256 → F i = inS ⟨#[94, 45]⟩ 2 i) : hatDash F = true := by
 unfold hatDash
 rw [decide_eq_true_iff]
 exact ⟨wd_congr (by omega) h, wd_congr (by omega) h, wd_congr (by omega) h, wd_congr (by omega) h⟩
theorem hat_of {F : Nat → Bool} (h : hatDash F = true) : ∀ i, i < 256 → F i = inS ⟨#[94, 45]⟩ 2 i := by
 unfold hatDash at h
 rw [decide_eq_true_iff] at h
 refine wd_inj (fun k hk => ?_)
 rcases (by omega : k = 0 ∨ k = 1 ∨ k = 2 ∨ k = 3) with rfl | rfl | rfl | rfl
 ·exact h.1
 ·exact h.2.1
 ·exact h.2.2.1
 ·exact h.2.2.2
theorem cnt_none : cnt (fun _ => false) 256 = 0 := by decide +kernel
theorem none_no {F G : Nat → Bool} (hF : cnt F 256 ≠ 0) (h : ∀ i, i < 256 → G i = F i) : noneIn G = false := by
 unfold noneIn
 rw [decide_eq_false_iff_not]
 rintro ⟨a, b, c, d⟩
 apply hF
 rw [← cnt_none]
 refine cnt_congr (fun i hi => ?_)
 rw [← h i hi]
 refine wd_inj (g := fun _ => false) (fun k hk => ?_) i hi
 rw [wdNone]
 rcases (by omega : k = 0 ∨ k = 1 ∨ k = 2 ∨ k = 3) with rfl | rfl | rfl | rfl
 ·exact a
 ·exact b
 ·exact c
 ·exact d
theorem any_setL (t : Tk) (ts : List Tk) (j : Nat) : setL t.set ts j = ((t :: ts).any fun t => t.set j) := by
 rw [setL_any, List.any_cons]
theorem E7_head {F : Nat → Bool} (hh : hatDash F = false) (h1 : cnt F 256 ≠ 1) {t : Tk} {ts : List Tk} (e : E7 F = t :: ts) : ∀ d z, t.txt = d :: z → d ≠ 94 := by
 have hall := E7_set F
 by_cases q : ∃ d z, t.txt = d :: z ∧ d = 94
 ·exfalso
  obtain ⟨d, z, hd, rfl⟩ := q
  have c93 : F 93 = false := by
   cases hc : F 93 with
   | false => rfl
   | true =>
    unfold E7 at e
    rw [hc] at e
    have : t = .one 93 := by simp [opt] at e; exact e.1.symm
    subst this
    cases hd
  have e6 : E6 F = t :: ts := by unfold E7 at e; rw [c93] at e; exact e
  have crun : bytesL (leftF F) = [] := by
   cases hc : bytesL (leftF F) with
   | nil => rfl
   | cons c l =>
    have hp := left_plain F c (by rw [hc]; simp)
    unfold E6 at e6
    rw [hc, runToks] at e6
    split at e6
    ·have := runLen_pos c l
     obtain ⟨k, hk⟩ : ∃ k, runLen (c :: l) = k + 1 := ⟨runLen (c :: l) - 1, by omega⟩
     rw [hk, List.take_succ_cons] at e6
     have : t = .one c := by simp at e6; exact e6.1.symm
     subst this
     cases hd
     exact absurd rfl hp.2.2.2.2.1
    ·obtain ⟨b, _, hb2⟩ := last_one c l
     rw [hb2] at e6
     have : t = .rng c b := by simp at e6; exact e6.1.symm
     subst this
     cases hd
     exact absurd rfl hp.2.2.2.2.1
  have e5 : E5 F = t :: ts := by unfold E6 at e6; rw [crun] at e6; exact e6
  have c10 : F 10 = false := by
   cases hc : F 10 with
   | false => rfl
   | true =>
    unfold E5 at e5
    rw [hc] at e5
    have : t = .nl := by simp [opt] at e5; exact e5.1.symm
    subst this
    cases hd
  have e4 : E4 F = t :: ts := by unfold E5 at e5; rw [c10] at e5; exact e5
  have c91 : F 91 = false := by
   cases hc : F 91 with
   | false => rfl
   | true =>
    unfold E4 at e4
    rw [hc] at e4
    have : t = .one 91 := by simp [opt] at e4; exact e4.1.symm
    subst this
    cases hd
  have e3 : E3 F = t :: ts := by unfold E4 at e4; rw [c91] at e4; exact e4
  have c92 : F 92 = false := by
   cases hc : F 92 with
   | false => rfl
   | true =>
    unfold E3 at e3
    rw [hc] at e3
    have : t = .one 92 := by simp [opt] at e3; exact e3.1.symm
    subst this
    cases hd
  have e2 : E2 F = t :: ts := by unfold E3 at e3; rw [c92] at e3; exact e3
  have c94 : F 94 = true := by
   cases hc : F 94 with
   | true => rfl
   | false =>
    unfold E2 at e2
    rw [hc] at e2
    unfold E1 at e2
    cases hc2 : F 45 with
    | false => rw [hc2] at e2; simp [opt] at e2
    | true =>
     rw [hc2] at e2
     have : t = .one 45 := by simp [opt] at e2; exact e2.1.symm
     subst this
     cases hd
  have hleft : ∀ i, i < 256 → leftF F i = false := fun i hi => (inL_bytes (leftF F) i hi).symm.trans (by rw [crun]; rfl)
  have hF : ∀ i, i < 256 → F i = (i == 94 || (i == 45 && F 45)) := fun i hi => by
   have hl := hleft i hi
   unfold leftF at hl
   rw [aside_eq] at hl
   by_cases x1 : i = 93
   ·subst x1; rw [c93]; rfl
   by_cases x2 : i = 91
   ·subst x2; rw [c91]; rfl
   by_cases x3 : i = 92
   ·subst x3; rw [c92]; rfl
   by_cases x4 : i = 94
   ·subst x4; rw [c94]; rfl
   by_cases x5 : i = 45
   ·subst x5; cases F 45 <;> rfl
   by_cases x6 : i = 10
   ·subst x6; rw [c10]; rfl
   simp [x1, x2, x3, x4, x5, x6] at hl
   simp [hl, x4, x5]
  cases hc : F 45 with
  | true =>
   have : hatDash F = true := hat_iff (fun i hi => by
    rw [hF i hi, hc, Bool.eq_iff_iff]
    simp [inS]
    omega)
   rw [this] at hh
   cases hh
  | false =>
   apply h1
   have hk : cnt (fun i => i == 94) 256 = 1 := by decide +kernel
   rw [← hk]
   exact cnt_congr (fun i hi => by rw [hF i hi, hc]; simp)
 ·exact fun d z hd hq => q ⟨d, z, hd, hq⟩
theorem brkP_list (F : Nat → Bool) (y : List UInt8) (hF : cnt F 256 ≠ 0) (h1 : cnt F 256 ≠ 1) (h2 : cnt F 256 ≠ 256) : ∃ G, brkP ([91] ++ listP F ++ [93] ++ y) = some (G, ([91] ++ listP F ++ [93]).length) ∧ ∀ i, i < 256 → G i = F i := by
 cases hh : hatDash F with
 | true =>
  have hl : listP F = txts [.one 45, .one 94] := by unfold listP; rw [hh]; rfl
  have hs := hat_of hh
  have hg : ∀ i, i < 256 → setL (Tk.one 45).set [.one 94] i = F i := fun i hi => by
   rw [hs i hi, any_setL, Bool.eq_iff_iff]
   simp [inS, Tk.set, rg]
   omega
  refine ⟨setL (Tk.one 45).set [.one 94], ?_, hg⟩
  rw [hl]
  have f0 : FC (93 :: y) := fc_plain (by decide) _
  refine brk_toks (t := .one 45) (ts := [.one 94]) ⟨⟨fc_plain (by decide) _, fun e => absurd e (by decide), fun _ => .inl rfl, fun e => absurd e (by decide), fun e => absurd e (by decide)⟩, ⟨⟨f0, fun e => absurd e (by decide), fun e => absurd e (by decide), fun e => absurd e (by decide), fun e => absurd e (by decide)⟩, trivial⟩⟩ (fun d z e => by cases e; decide) (none_no hF hg)
 | false =>
  rw [E7_txt F hh]
  have ho := E7_oks F y
  have hset := E7_set F
  have hd := fun {t ts} e => E7_head (t := t) (ts := ts) hh h1 e
  cases he : E7 F with
  | nil =>
   exfalso
   apply hF
   rw [← cnt_none]
   exact cnt_congr (fun i hi => by rw [← hset i hi, he]; rfl)
  | cons t ts =>
   rw [he] at ho hset
   have hg : ∀ i, i < 256 → setL t.set ts i = F i := fun i hi => by rw [any_setL]; exact hset i hi
   exact ⟨setL t.set ts, brk_toks ho (hd he) (none_no hF hg), hg⟩
end Go.Proofs.YtdjcgjkbecncaaaGreatDoor
