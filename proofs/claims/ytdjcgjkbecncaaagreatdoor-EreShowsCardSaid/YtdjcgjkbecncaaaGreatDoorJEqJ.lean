/- ere: the text of a tree, and that it is read as that tree. Of no program. -/
import Derived.Test.YtdjcgjkbecncaaaGreatDoorJEqD
import Derived.Test.YtdjcgjkbecncaaaGreatDoorJBtF
import Derived.Test.YtdjcgjkbecncaaaGreatDoorJBrKd
set_option linter.unusedVariables false
set_option linter.unusedSimpArgs false
set_option maxRecDepth 100000
set_option maxHeartbeats 40000000
namespace Go.Proofs.YtdjcgjkbecncaaaGreatDoor
open Go.RowKit Go.Lib
def quotE : List UInt8 := [46, 91, 92, 40, 41, 42, 43, 63, 123, 125, 124, 94, 36]
def showE1 (c : UInt8) : List UInt8 := if c ∈ quotE then [92, c] else showOneP c
def showE (F : Nat → Bool) : List UInt8 := if cnt F 256 = 1 then (match bytesL F with | [c] => showE1 c | _ => []) else showP F
def numT (m M : Int) : List UInt8 := if M = m then itoa m else if M = -1 then itoa m ++ [44] else itoa m ++ [44] ++ itoa M
def timesX (m M : Int) : List UInt8 := if m = 0 ∧ M = -1 then [42] else if m = 1 ∧ M = -1 then [43] else if m = 0 ∧ M = 1 then [63] else [123] ++ numT m M ++ [125]
def textE : T → List UInt8
 | .leaf x => if x.kind = 1 then showE x.set else if x.kind = 2 then [94] else if x.kind = 3 then [36] else if x.kind = 8 then [92] ++ itoa x.n else []
 | .two k a b => if k = 4 then textE a ++ textE b else if k = 5 then textE a ++ [124] ++ textE b else []
 | .times m M t => textE t ++ timesX m M
 | .group _ t => [40] ++ textE t ++ [41]
def St (s : List UInt8) (a b : AS) : Prop := ∃ c, s[a.p]? = some c ∧ actA a (tokE s a.p c) = .ok b
inductive Sts (s : List UInt8) : AS → AS → Prop where
 | refl (a : AS) : Sts s a a
 | step {a b c : AS} : St s a b → Sts s b c → Sts s a c
theorem Sts.trans {s : List UInt8} {a b c : AS} (h : Sts s a b) (k : Sts s b c) : Sts s a c := by
 induction h with
 | refl => exact k
 | step h1 _ ih => exact .step h1 (ih k)
theorem Sts.one {s : List UInt8} {a b : AS} (h : St s a b) : Sts s a b := .step h (.refl b)
theorem sts_loop {s : List UInt8} {a b : AS} (h : Sts s a b) : ∀ fu, s.length < fu + a.p → ∃ fu', s.length < fu' + b.p ∧ loopA s fu a = loopA s fu' b := by
 induction h with
 | refl a => intro fu hf; exact ⟨fu, hf, rfl⟩
 | @step a b c h1 _ ih =>
  intro fu hf
  obtain ⟨x, hx, ha⟩ := h1
  have hp := (List.getElem?_eq_some_iff.1 hx).1
  obtain ⟨f, rfl⟩ : ∃ f, fu = f + 1 := ⟨fu - 1, by omega⟩
  have h2 := actA_p (tok_ok s a.p x hx) (by omega) ha
  obtain ⟨fu', h3, h4⟩ := ih f (by omega)
  refine ⟨fu', h3, ?_⟩
  rw [← h4]
  conv => lhs; unfold loopA
  rw [hx]
  simp only
  rw [ha]
theorem loop_over {s : List UInt8} {b : AS} (h : s.length ≤ b.p) (fu : Nat) : loopA s fu b = finA s b := by
 cases fu with
 | zero => rfl
 | succ f => unfold loopA; rw [List.getElem?_eq_none h]
theorem tree_of {s : List UInt8} {b : AS} (h : Sts s startA b) (hp : s.length ≤ b.p) : treeP s = finA s b := by
 obtain ⟨fu', _, h2⟩ := sts_loop h (s.length + 1) (by show s.length < s.length + 1 + 0; omega)
 unfold treeP
 rw [h2, loop_over hp]
theorem quotE_in {c : UInt8} (h : c ∉ quotE) : ¬ c = 94 ∧ ¬ c = 36 ∧ ¬ c = 46 ∧ ¬ c = 91 ∧ ¬ c = 40 ∧ ¬ c = 41 ∧ ¬ c = 124 ∧ ¬ c = 92 ∧ ¬ c = 42 ∧ ¬ c = 43 ∧ ¬ c = 63 ∧ ¬ c = 123 := by
 refine ⟨?_, ?_, ?_, ?_, ?_, ?_, ?_, ?_, ?_, ?_, ?_, ?_⟩ <;> (rintro rfl; exact absurd h (by decide))
theorem tok_self {s : List UInt8} {p : Nat} {c : UInt8} (h : c ∉ quotE) : tokE s p c = .it (setNd fun i => i == c.toNat) 1 true := by
 obtain ⟨h1, h2, h3, h4, h5, h6, h7, h8, h9, h10, h11, h12⟩ := quotE_in h
 unfold tokE
 rw [if_neg h1, if_neg h2, if_neg h3, if_neg h4, if_neg h5, if_neg h6, if_neg h7, if_neg h8, if_neg h9, if_neg h10, if_neg h11, if_neg h12]
theorem tok_esc {s : List UInt8} {p : Nat} {c : UInt8} (h : s[p + 1]? = some c) (hq : c ∈ quotE) : tokE s p 92 = .it (setNd fun i => i == c.toNat) 2 true := by
 have e : tokE s p 92 = escK s p := rfl
 rw [e]
 unfold escK
 rw [h]
 simp only
 have n1 : ¬ c = 110 := by rintro rfl; exact absurd hq (by decide)
 rw [if_neg n1, if_pos (.inr hq)]
theorem setNd_congr {F G : Nat → Bool} (h : ∀ i, i < 256 → G i = F i) : setNd G = setNd F := by
 unfold setNd
 rw [wd_congr (k := 0) (by omega) h, wd_congr (k := 1) (by omega) h, wd_congr (k := 2) (by omega) h, wd_congr (k := 3) (by omega) h]
theorem one_byte {F : Nat → Bool} (h1 : cnt F 256 = 1) : ∃ c, bytesL F = [c] ∧ ∀ i, i < 256 → (i == c.toNat) = F i := by
 have hb := bytesL_len F
 rw [h1] at hb
 obtain ⟨c, hc⟩ := List.length_eq_one_iff.1 hb
 refine ⟨c, hc, fun i hi => ?_⟩
 have := inS_bytesOf F i hi
 unfold inS at this
 have hcl : (bytesOf F).data.toList = [c] := hc
 rw [hcl, bytesOf_size, h1] at this
 rw [← this, Bool.eq_iff_iff]
 simp
 exact eq_comm
theorem tok_show {s : List UInt8} {p : Nat} {F : Nat → Bool} {y : List UInt8} (hF : cnt F 256 ≠ 0) (hd : s.drop p = showE F ++ y) : ∃ c, s[p]? = some c ∧ tokE s p c = .it (setNd F) (showE F).length true := by
 unfold showE at hd ⊢
 by_cases h1 : cnt F 256 = 1
 ·rw [if_pos h1] at hd ⊢
  obtain ⟨c, hc, hi⟩ := one_byte h1
  have he := setNd_congr hi
  rw [hc] at hd ⊢
  simp only at hd ⊢
  unfold showE1 at hd ⊢
  by_cases hq : c ∈ quotE
  ·rw [if_pos hq] at hd ⊢
   exact ⟨92, atDrop hd, by rw [tok_esc (atDrop (drop_cons hd)) hq, he]; rfl⟩
  ·rw [if_neg hq] at hd ⊢
   unfold showOneP at hd ⊢
   by_cases h10 : c = 10
   ·rw [if_pos h10] at hd ⊢
    subst h10
    refine ⟨92, atDrop hd, ?_⟩
    have e : tokE s p 92 = escK s p := rfl
    rw [e, ← he]
    unfold escK
    rw [atDrop (drop_cons hd)]
    rfl
   ·have hq2 : ¬ c ∈ ([46, 91, 92, 42, 94, 36] : List UInt8) := fun e => hq (by
     simp only [List.mem_cons, List.not_mem_nil, or_false] at e
     rcases e with rfl | rfl | rfl | rfl | rfl | rfl <;> decide)
    rw [if_neg h10, if_neg hq2] at hd ⊢
    exact ⟨c, atDrop hd, by rw [tok_self hq, he]; rfl⟩
 ·rw [if_neg h1] at hd ⊢
  unfold showP at hd ⊢
  rw [if_neg hF, if_neg h1] at hd ⊢
  by_cases h2 : cnt F 256 = 256
  ·rw [if_pos h2] at hd ⊢
   refine ⟨46, atDrop hd, ?_⟩
   rw [← setNd_congr (F := F) (G := fun _ => true) (fun i hi => (cnt_full h2 i hi).symm)]
   rfl
  ·rw [if_neg h2] at hd ⊢
   have hd2 : s.drop p = 91 :: (listP F ++ [93] ++ y) := by rw [hd]; simp
   obtain ⟨G, hG, hGi⟩ := brkP_list F y hF h1 h2
   refine ⟨91, atDrop hd2, ?_⟩
   have e : tokE s p 91 = (match brkP (s.drop p) with | none => .er 42 | some (F, m) => .it (setNd F) m true) := rfl
   rw [e, hd, hG]
   simp only
   rw [setNd_congr hGi]
theorem isDig_ne {c : UInt8} (h : isDig c = true) : c ≠ 125 := by
 rintro rfl; revert h; decide
theorem itoa_dig {n : Int} (h0 : 0 ≤ n) (h1 : n ≤ 255) : ∀ c ∈ itoa n, c ≠ 125 := by
 obtain ⟨k, rfl⟩ : ∃ k : Nat, n = k := ⟨n.toNat, by omega⟩
 rw [itoa_nat k (by omega)]
 have := (val3 k (by omega)).2.2.2
 exact fun c hc => isDig_ne (List.all_eq_true.1 this c hc)
theorem numT_ne {m M : Int} (h : isCnt m M = true) : ∀ c ∈ numT m M, c ≠ 125 := by
 obtain ⟨h0, h1, h2⟩ := isCnt_of h
 have a := itoa_dig h0 h1
 intro c hc
 unfold numT at hc
 split at hc
 ·exact a c hc
 split at hc
 ·rcases List.mem_append.1 hc with q | q
  ·exact a c q
  ·rw [List.mem_singleton.1 q]; decide
 ·rename_i hM
  have b := itoa_dig (n := M) (by omega) (by omega)
  rcases List.mem_append.1 hc with q | q
  ·rcases List.mem_append.1 q with q | q
   ·exact a c q
   ·rw [List.mem_singleton.1 q]; decide
  ·exact b c q
theorem tmS_timesT {m M : Int} (h : ¬ (m = 0 ∧ M = -1)) : tmS (numT m M) = [97] ++ timesT m M := by
 unfold tmS timesT numT
 rw [if_neg h]
 simp
theorem numE_numT {m M : Int} (hc : isCnt m M = true) (h : ¬ (m = 0 ∧ M = -1)) (y : List UInt8) : numE (numT m M ++ 125 :: y) = some ((numT m M).length + 2, m, M) := by
 have ht : (numT m M ++ 125 :: y).takeWhile (· != 125) = numT m M := takeWhile_pre _ _ (List.all_eq_true.2 fun c hc' => by simpa using numT_ne hc c hc') (fun c z e => by cases e; rfl)
 have ha : (numT m M ++ 125 :: y).any (· == 125) = true := by simp
 have hd : (tmS (numT m M)).drop 1 = timesT m M ++ [] := by rw [tmS_timesT h]; simp
 rw [numE_eq, ht, timesP_timesT hc hd, ha]
 rfl
theorem tok_times {s : List UInt8} {p : Nat} {m M : Int} {y : List UInt8} (hc : isCnt m M = true) (hd : s.drop p = timesX m M ++ y) : ∃ c, s[p]? = some c ∧ tokE s p c = .tm (timesX m M).length m M := by
 unfold timesX at hd ⊢
 by_cases h1 : m = 0 ∧ M = -1
 ·rw [if_pos h1] at hd ⊢
  exact ⟨42, atDrop hd, by rw [h1.1, h1.2]; rfl⟩
 rw [if_neg h1] at hd ⊢
 by_cases h2 : m = 1 ∧ M = -1
 ·rw [if_pos h2] at hd ⊢
  exact ⟨43, atDrop hd, by rw [h2.1, h2.2]; rfl⟩
 rw [if_neg h2] at hd ⊢
 by_cases h3 : m = 0 ∧ M = 1
 ·rw [if_pos h3] at hd ⊢
  exact ⟨63, atDrop hd, by rw [h3.1, h3.2]; rfl⟩
 rw [if_neg h3] at hd ⊢
 have hd2 : s.drop p = 123 :: (numT m M ++ 125 :: y) := by rw [hd]; simp
 refine ⟨123, atDrop hd2, ?_⟩
 have e : tokE s p 123 = (match numE (s.drop (p + 1)) with | none => .er 43 | some (n, m, M) => .tm n m M) := rfl
 rw [e, drop_cons hd2, numE_numT hc h1 y]
 simp
def AS.adv (a : AS) (n g : Nat) (f : Bool) (rs its : List T) : AS := ⟨a.p + n, a.lo, ⟨a.top.p, a.top.n, a.top.rows ++ rs, its⟩, a.g + g, f⟩
def IRd (t : T) : Prop := ∀ (s : List UInt8) (a : AS) (y : List UInt8), s.drop a.p = textE t ++ y → NumOk t a.g → a.g + grp t ≤ 9 → Sts s a (a.adv (textE t).length (grp t) t.isAtom [] (a.top.items ++ [t]))
def RRd (t : T) : Prop := ∃ l : List T, l ≠ [] ∧ chT 4 l = t ∧ ∀ (s : List UInt8) (a : AS) (y : List UInt8), s.drop a.p = textE t ++ y → NumOk t a.g → a.g + grp t ≤ 9 → ∃ f, Sts s a (a.adv (textE t).length (grp t) f [] (a.top.items ++ l))
def ARd (t : T) : Prop := ∃ rs l : List T, l ≠ [] ∧ chT 5 (rs ++ [chT 4 l]) = t ∧ ∀ (s : List UInt8) (a : AS) (y : List UInt8), s.drop a.p = textE t ++ y → a.top.items = [] → NumOk t a.g → a.g + grp t ≤ 9 → ∃ f, Sts s a (a.adv (textE t).length (grp t) f rs l)
theorem RRd.of {t : T} (h : IRd t) : RRd t := ⟨[t], by simp, rfl, fun s a y hd hn hg => ⟨_, h s a y hd hn hg⟩⟩
theorem ARd.of {t : T} (h : RRd t) : ARd t := by
 obtain ⟨l, h1, h2, h3⟩ := h
 refine ⟨[], l, h1, by simp [chT, h2], fun s a y hd hi hn hg => ?_⟩
 obtain ⟨f, hf⟩ := h3 s a y hd hn hg
 rw [hi, List.nil_append] at hf
 exact ⟨f, hf⟩
theorem adv_adv (a : AS) (n g n' g' : Nat) (f f' : Bool) (rs rs' i i' : List T) : (a.adv n g f rs i).adv n' g' f' rs' i' = a.adv (n + n') (g + g') f' (rs ++ rs') i' := by
 simp [AS.adv, Nat.add_assoc]
theorem IRd.leaf {x : Nd} (hc : Can5 0 (.leaf x)) : IRd (.leaf x) := fun s a y hd _ _ => by
 obtain ⟨hn, hf, hk⟩ := hc
 have hadv : ∀ (c : UInt8) (n : Nat) (f : Bool), s[a.p]? = some c → tokE s a.p c = .it x n f → n = (textE (.leaf x)).length → f = (T.leaf x).isAtom → Sts s a (a.adv (textE (.leaf x)).length (grp (.leaf x)) (T.leaf x).isAtom [] (a.top.items ++ [.leaf x])) := fun c n f h1 h2 h3 h4 => by
  refine .one ⟨c, h1, ?_⟩
  rw [h2, ← h3, ← h4]
  show Except.ok (a.item (.leaf x) n f) = _
  simp [AS.item, AS.adv, grp]
 rcases hk with k | k | k
 ·obtain ⟨h0, hx⟩ := nd_cnt hn k hf
  have ht : textE (.leaf x) = showE x.set := by unfold textE; rw [if_pos k]
  obtain ⟨c, h1, h2⟩ := tok_show h0 (by rw [← ht]; exact hd)
  refine hadv c _ true h1 ?_ (by rw [ht]) (by simp [T.isAtom, k])
  rw [h2]
  have : setNd x.set = x := hx.symm
  rw [this]
 ·have ht : textE (.leaf x) = [94] := by unfold textE; rw [if_neg (by omega), if_pos k]
  have hx : x = kindNd 2 := by
   unfold isNd at hn
   rw [if_pos (by omega), decide_eq_true_iff, k] at hn
   exact hn
  rw [ht] at hd
  exact hadv 94 1 false (atDrop hd) (by rw [hx]; rfl) (by rw [ht]; rfl) (by simp [T.isAtom, k])
 ·have ht : textE (.leaf x) = [36] := by unfold textE; rw [if_neg (by omega), if_neg (by omega), if_pos k]
  have hx : x = kindNd 3 := by
   unfold isNd at hn
   rw [if_pos (by omega), decide_eq_true_iff, k] at hn
   exact hn
  rw [ht] at hd
  exact hadv 36 1 false (atDrop hd) (by rw [hx]; rfl) (by rw [ht]; rfl) (by simp [T.isAtom, k])
theorem IRd.times {m M : Int} {t : T} (hc : isCnt m M = true) (hat : t.isAtom = true) (h : IRd t) : IRd (.times m M t) := fun s a y hd hn hg => by
 have ht : textE (.times m M t) = textE t ++ timesX m M := rfl
 rw [ht, List.append_assoc] at hd
 have h1 := h s a _ hd hn hg
 refine h1.trans (.one ?_)
 obtain ⟨c, h2, h3⟩ := tok_times (p := a.p + (textE t).length) hc (drop_step hd)
 refine ⟨c, h2, ?_⟩
 have e : (a.adv (textE t).length (grp t) t.isAtom [] (a.top.items ++ [t])).p = a.p + (textE t).length := rfl
 rw [e, h3]
 show timesA _ _ _ _ = _
 unfold timesA
 have e2 : (a.adv (textE t).length (grp t) t.isAtom [] (a.top.items ++ [t])).ia = true := hat
 rw [e2, if_pos rfl]
 have e3 : (a.adv (textE t).length (grp t) t.isAtom [] (a.top.items ++ [t])).top.items = a.top.items ++ [t] := rfl
 rw [e3, List.dropLast_concat, show (a.top.items ++ [t]).getLastD (.leaf (kindNd 0)) = t by rw [List.getLastD_eq_getLast?]; simp]
 simp only [AS.adv, ht, List.length_append, Nat.add_assoc, grp, T.isAtom]
theorem ends_row {l : List T} (h : l ≠ []) (p : Nat) (lo : List AL) (tp tn : Nat) (rows : List T) (g : Nat) (f : Bool) :
  endA ⟨p, lo, ⟨tp, tn, rows, l⟩, g, f⟩ = some ⟨p, lo, ⟨tp, tn, rows ++ [chT 4 l], []⟩, g, f⟩ := by
 unfold endA
 rw [if_neg h]
theorem IRd.group {n : Int} {t : T} (h : ARd t) : IRd (.group n t) := fun s a y hd hn hg => by
 have ht : textE (.group n t) = [40] ++ textE t ++ [41] := rfl
 obtain ⟨rs, l, hl, hch, hr⟩ := h
 have hg' : grp (.group n t) = grp t + 1 := rfl
 rw [hg'] at hg
 obtain ⟨hn1, hn2⟩ := hn
 have hd1 : s.drop a.p = 40 :: (textE t ++ 41 :: y) := by rw [hd, ht]; simp
 have s1 : St s a ⟨a.p + 1, a.lo ++ [a.top], ⟨a.p, a.g + 1, [], []⟩, a.g + 1, false⟩ := by
  refine ⟨40, atDrop hd1, ?_⟩
  show openA a = _
  unfold openA
  rw [if_neg (by omega)]
 obtain ⟨f, s2⟩ := hr s ⟨a.p + 1, a.lo ++ [a.top], ⟨a.p, a.g + 1, [], []⟩, a.g + 1, false⟩ (41 :: y) (drop_cons hd1) rfl hn2 (by show a.g + 1 + grp t ≤ 9; omega)
 refine .step s1 (s2.trans (.one ?_))
 have hd3 : s.drop (a.p + 1 + (textE t).length) = 41 :: y := drop_step (drop_cons hd1)
 refine ⟨41, atDrop hd3, ?_⟩
 show shutA _ = _
 unfold shutA
 simp only [AS.adv, List.getLast?_append, List.getLast?_singleton, Option.some_or, Option.or_some, List.nil_append]
 rw [ends_row hl]
 simp only [List.dropLast_concat, AS.item]
 rw [hch]
 have e : ((a.g + 1 : Nat) : Int) = n := by omega
 rw [e]
 congr 1
 rw [ht]
 simp only [List.length_append, List.length_cons, List.length_nil, grp, T.isAtom]
 congr 1
 ·omega
 ·simp
 ·omega
theorem RRd.two {a b : T} (ha : IRd a) (hb : RRd b) : RRd (.two 4 a b) := by
 obtain ⟨l, h1, h2, h3⟩ := hb
 refine ⟨a :: l, by simp, ?_, fun s r y hd hn hg => ?_⟩
 ·cases l with
  | nil => exact absurd rfl h1
  | cons u l => rw [chT, h2]
 ·have ht : textE (.two 4 a b) = textE a ++ textE b := rfl
  have hg' : grp (.two 4 a b) = grp a + grp b := rfl
  rw [hg'] at hg
  rw [ht, List.append_assoc] at hd
  have s1 := ha s r _ hd hn.1 (by omega)
  obtain ⟨f, s2⟩ := h3 s (r.adv (textE a).length (grp a) a.isAtom [] (r.top.items ++ [a])) y (drop_step hd) hn.2 (by show r.g + grp a + grp b ≤ 9; omega)
  refine ⟨f, ?_⟩
  have := s1.trans s2
  rw [adv_adv] at this
  rw [ht, hg', List.length_append]
  have e : (r.adv (textE a).length (grp a) a.isAtom [] (r.top.items ++ [a])).top.items ++ l = r.top.items ++ a :: l := by simp [AS.adv]
  rw [e] at this
  exact this
theorem ARd.two {a b : T} (ha : RRd a) (hb : ARd b) : ARd (.two 5 a b) := by
 obtain ⟨l, h1, h2, h3⟩ := ha
 obtain ⟨rs, m, g1, g2, g3⟩ := hb
 refine ⟨a :: rs, m, g1, ?_, fun s r y hd hi hn hg => ?_⟩
 ·rw [List.cons_append]
  cases hq : rs ++ [chT 4 m] with
  | nil => simp at hq
  | cons u v => rw [chT, ← hq, g2]
 ·have ht : textE (.two 5 a b) = textE a ++ [124] ++ textE b := rfl
  have hg' : grp (.two 5 a b) = grp a + grp b := rfl
  rw [hg'] at hg
  have hd1 : s.drop r.p = textE a ++ (124 :: (textE b ++ y)) := by rw [hd, ht]; simp
  obtain ⟨f, s1⟩ := h3 s r _ hd1 hn.1 (by omega)
  rw [hi, List.nil_append] at s1
  have hd2 : s.drop (r.p + (textE a).length) = 124 :: (textE b ++ y) := drop_step hd1
  have s2 : St s (r.adv (textE a).length (grp a) f [] l) (r.adv ((textE a).length + 1) (grp a) false [a] []) := by
   refine ⟨124, atDrop hd2, ?_⟩
   show barA _ = _
   unfold barA
   simp only [AS.adv]
   rw [ends_row h1]
   simp only [List.append_nil, h2, Nat.add_assoc]
  obtain ⟨f', s3⟩ := g3 s (r.adv ((textE a).length + 1) (grp a) false [a] []) y (drop_cons hd2) rfl hn.2 (by show r.g + grp a + grp b ≤ 9; omega)
  refine ⟨f', ?_⟩
  have := s1.trans (.step s2 s3)
  rw [adv_adv] at this
  rw [ht, hg']
  simp only [List.length_append, List.length_cons, List.length_nil]
  exact this
structure Rde (t : T) : Prop where
 i : Can5 0 t → IRd t
 r : Can5 1 t → RRd t
 a : Can5 2 t → ARd t
theorem rde_all : ∀ t : T, Rde t
 | .leaf x => ⟨fun h => .leaf h, fun h => .of (.leaf h), fun h => .of (.of (.leaf h))⟩
 | .times m M t => ⟨fun h => .times h.1 h.2.1 ((rde_all t).i h.2.2), fun h => .of (.times h.1 h.2.1 ((rde_all t).i h.2.2)), fun h => .of (.of (.times h.1 h.2.1 ((rde_all t).i h.2.2)))⟩
 | .group n t => ⟨fun h => .group ((rde_all t).a h.2), fun h => .of (.group ((rde_all t).a h.2)), fun h => .of (.of (.group ((rde_all t).a h.2)))⟩
 | .two k a b => by
  have hr : Can5 1 (.two k a b) → RRd (.two k a b) := fun h => by
   rcases h with ⟨_, h, _⟩ | ⟨rfl, _, h1, h2⟩
   ·omega
   ·exact .two ((rde_all a).i h1) ((rde_all b).r h2)
  refine ⟨fun h => ?_, hr, fun h => ?_⟩
  ·rcases h with ⟨_, h, _⟩ | ⟨_, h, _⟩ <;> omega
  ·rcases h with ⟨rfl, _, h1, h2⟩ | ⟨rfl, _, h1, h2⟩
   ·exact .two ((rde_all a).r h1) ((rde_all b).a h2)
   ·exact .of (hr (.inr ⟨rfl, Nat.le_refl _, h1, h2⟩))
theorem tree_text {t : T} (h : Can5 2 t) (hn : NumOk t 0) (hg : grp t ≤ 9) : treeP (textE t) = .ok t := by
 obtain ⟨rs, l, h1, h2, h3⟩ := (rde_all t).a h
 obtain ⟨f, hs⟩ := h3 (textE t) startA [] (by simp [startA]) rfl hn (by show 0 + grp t ≤ 9; omega)
 have hp : (startA.adv (textE t).length (grp t) f rs l).p = (textE t).length := by show 0 + _ = _; omega
 rw [tree_of hs (by rw [hp]; exact Nat.le_refl _)]
 unfold finA
 simp only [AS.adv, startA]
 rw [ends_row h1]
 simp only [ne_eq, not_true_eq_false, if_false, List.nil_append]
 rw [h2]
end Go.Proofs.YtdjcgjkbecncaaaGreatDoor
namespace Go.Proofs.YtdjcgjkbecncaaaGreatDoor
open Go.RowKit Go.Lib
theorem can_ok : ∀ (t : T) (v : Nat), Can5 v t → t.Ok
 | .leaf x, v, h => ⟨h.1, by rcases h.2.2 with q | q | q <;> omega⟩
 | .two k a b, v, h => by
  rcases h with ⟨k5, _, h1, h2⟩ | ⟨k4, _, h1, h2⟩
  ·exact ⟨.inr k5, can_ok a _ h1, can_ok b _ h2⟩
  ·exact ⟨.inl k4, can_ok a _ h1, can_ok b _ h2⟩
 | .times m M t, v, h => ⟨h.1, can_ok t _ h.2.2⟩
 | .group n t, v, h => ⟨h.1, can_ok t _ h.2⟩
theorem can_fits : ∀ (t : T) (v : Nat), Can5 v t → ∀ (o : Nat), o + t.size ≤ 500 → ∀ x ∈ t.nodes o, x.Fits
 | .leaf y, v, h, o, hs, x, hx => by
  rw [List.mem_singleton.1 hx]; exact h.2.1
 | .two k a b, v, h, o, hs, x, hx => by
  have hs' : o + (a.size + b.size + 1) ≤ 500 := hs
  have hk : k = 4 ∨ k = 5 := by rcases h with h | h <;> omega
  obtain ⟨va, vb, ha, hb⟩ : ∃ va vb, Can5 va a ∧ Can5 vb b := by
   rcases h with h | h
   ·exact ⟨_, _, h.2.2.1, h.2.2.2⟩
   ·exact ⟨_, _, h.2.2.1, h.2.2.2⟩
  simp only [T.nodes, List.mem_append, List.mem_singleton] at hx
  rcases hx with q | q | rfl
  ·exact can_fits a _ ha _ (by omega) x q
  ·exact can_fits b _ hb _ (by omega) x q
  ·exact bsmall_fits (by omega) (by omega) (by omega) (by decide) (by decide) (by decide)
 | .times m M t, v, h, o, hs, x, hx => by
  have hs' : o + (t.size + 1) ≤ 500 := hs
  have := isCnt_of h.1
  simp only [T.nodes, List.mem_append, List.mem_singleton] at hx
  rcases hx with q | rfl
  ·exact can_fits t _ h.2.2 _ (by omega) x q
  ·exact bsmall_fits (by decide) (by omega) (by decide) (by omega) (by omega) (by decide)
 | .group n t, v, h, o, hs, x, hx => by
  have hs' : o + (t.size + 1) ≤ 500 := hs
  have := num_of h.1
  simp only [T.nodes, List.mem_append, List.mem_singleton] at hx
  rcases hx with q | rfl
  ·exact can_fits t _ h.2 _ (by omega) x q
  ·exact bsmall_fits (by decide) (by omega) (by decide) (by decide) (by decide) (by omega)
theorem can_kind {t : T} {v : Nat} (h : Can5 v t) (o : Nat) : ((t.root o).kind = 4 → 1 ≤ v) ∧ ((t.root o).kind = 5 → 2 ≤ v) ∧ (t.isAtom = true → (t.root o).kind = 1 ∨ (t.root o).kind = 7) := by
 cases t with
 | leaf x =>
  refine ⟨fun k => ?_, fun k => ?_, fun k => .inl (show x.kind = 1 by simpa [T.isAtom] using k)⟩
  ·have : x.kind = 4 := k
   rcases h.2.2 with q | q | q <;> omega
  ·have : x.kind = 5 := k
   rcases h.2.2 with q | q | q <;> omega
 | two k a b =>
  refine ⟨fun q => ?_, fun q => ?_, fun q => (by cases q)⟩
  ·have : k = 4 := q
   rcases h with h | h <;> omega
  ·have : k = 5 := q
   rcases h with h | h <;> omega
 | times m M t => exact ⟨fun q => absurd q (by decide : ¬ (6 : Int) = 4), fun q => absurd q (by decide : ¬ (6 : Int) = 5), fun q => by cases q⟩
 | group n t => exact ⟨fun q => absurd q (by decide : ¬ (7 : Int) = 4), fun q => absurd q (by decide : ¬ (7 : Int) = 5), fun q => .inr rfl⟩
theorem can_pOk {xs : List Nd} : ∀ (t : T) (v o : Nat), Can5 v t → T.At (fun i => xs[i]?) t o → ∀ x ∈ t.nodes o, pOk xs x
 | .leaf y, v, o, h, ha, x, hx => by
  rw [List.mem_singleton.1 hx]
  unfold pOk
  rcases h.2.2 with k | k | k
  all_goals (rw [if_neg (by omega), if_neg (by omega), if_neg (by omega), if_neg (by omega)]; trivial)
 | .two k a b, v, o, h, ha, x, hx => by
  obtain ⟨va, vb, hca, hcb⟩ : ∃ va vb, Can5 va a ∧ Can5 vb b := by
   rcases h with h | h
   ·exact ⟨_, _, h.2.2.1, h.2.2.2⟩
   ·exact ⟨_, _, h.2.2.1, h.2.2.2⟩
  simp only [T.nodes, List.mem_append, List.mem_singleton] at hx
  rcases hx with q | q | rfl
  ·exact can_pOk a _ _ hca ha.1 x q
  ·exact can_pOk b _ _ hcb ha.2.1 x q
  ·have ka := kindAt_root ha.1 ((o : Int) + a.size - 1) rfl
   have kb := kindAt_root ha.2.1 ((o : Int) + a.size + b.size - 1) (by omega)
   rcases h with ⟨rfl, _, h1, h2⟩ | ⟨rfl, _, h1, h2⟩
   ·have c1 := can_kind h1 o
    unfold pOk
    rw [if_neg (by simp [T.root]), if_neg (by simp [T.root]), if_pos (by rfl)]
    show kindAt xs ((o : Int) + a.size - 1) ≠ 5
    rw [ka]
    intro e
    have := c1.2.1 e
    omega
   ·have c1 := can_kind h1 o
    have c2 := can_kind h2 (o + a.size)
    unfold pOk
    rw [if_neg (by simp [T.root]), if_pos (by rfl)]
    refine ⟨?_, ?_, ?_⟩
    ·show kindAt xs ((o : Int) + a.size - 1) ≠ 4
     rw [ka]
     intro e
     have := c1.1 e
     omega
    ·show kindAt xs ((o : Int) + a.size - 1) ≠ 5
     rw [ka]
     intro e
     have := c1.2.1 e
     omega
    ·show kindAt xs ((o : Int) + a.size + b.size - 1) ≠ 5
     rw [kb]
     intro e
     have := c2.2.1 e
     omega
 | .times m M t, v, o, h, ha, x, hx => by
  obtain ⟨_, hat, hct⟩ := h
  simp only [T.nodes, List.mem_append, List.mem_singleton] at hx
  rcases hx with q | rfl
  ·exact can_pOk t _ _ hct ha.1 x q
  ·have kt := kindAt_root ha.1 ((o : Int) + t.size - 1) rfl
   unfold pOk
   rw [if_neg (by simp [T.root]), if_neg (by simp [T.root]), if_neg (by simp [T.root]), if_pos (by rfl)]
   show kindAt xs ((o : Int) + t.size - 1) = 1 ∨ kindAt xs ((o : Int) + t.size - 1) = 7 ∨ kindAt xs ((o : Int) + t.size - 1) = 8
   rw [kt]
   rcases (can_kind hct o).2.2 hat with q | q
   ·exact .inl q
   ·exact .inr (.inl q)
 | .group n t, v, o, h, ha, x, hx => by
  simp only [T.nodes, List.mem_append, List.mem_singleton] at hx
  rcases hx with q | rfl
  ·exact can_pOk t _ _ h.2 ha.1 x q
  ·unfold pOk
   rw [if_neg (by simp [T.root]), if_neg (by simp [T.root]), if_neg (by simp [T.root]), if_neg (by simp [T.root])]
   trivial
theorem can_pat {t : T} (h : Can5 2 t) (hs : t.size ≤ 120) (hn : NumOk t 0) : IsPat (t.nodes 0) t := by
 have ho := can_ok t _ h
 have ha : T.At (fun i => (t.nodes 0)[i]?) t 0 := by
  have := nodes_at t [] []
  simpa using this
 have hl := T.nodes_len t 0
 obtain ⟨en, he⟩ := num_of_ok t 2 0 (fun _ => false) h hn
 exact ⟨ho, ha, hl.symm, by omega, fun i x hx => nodes_isNd t ho 0 x (List.mem_of_getElem? hx), fun i x hx => can_pOk t _ 0 h ha x (List.mem_of_getElem? hx), by rw [he]; rfl⟩
theorem can_noref : ∀ (t : T) (v : Nat), Can5 v t → ∀ (o : Nat), ∀ x ∈ t.nodes o, x.kind ≠ 8
 | .leaf y, v, h, o, x, hx => by
  rw [List.mem_singleton.1 hx]
  rcases h.2.2 with q | q | q <;> omega
 | .two k a b, v, h, o, x, hx => by
  have hk : k = 4 ∨ k = 5 := by rcases h with h | h <;> omega
  obtain ⟨va, vb, ha, hb⟩ : ∃ va vb, Can5 va a ∧ Can5 vb b := by
   rcases h with h | h
   ·exact ⟨_, _, h.2.2.1, h.2.2.2⟩
   ·exact ⟨_, _, h.2.2.1, h.2.2.2⟩
  simp only [T.nodes, List.mem_append, List.mem_singleton] at hx
  rcases hx with q | q | rfl
  ·exact can_noref a _ ha _ x q
  ·exact can_noref b _ hb _ x q
  ·show k ≠ 8
   omega
 | .times m M t, v, h, o, x, hx => by
  simp only [T.nodes, List.mem_append, List.mem_singleton] at hx
  rcases hx with q | rfl
  ·exact can_noref t _ h.2.2 _ x q
  ·exact (by decide : (6 : Int) ≠ 8)
 | .group n t, v, h, o, x, hx => by
  simp only [T.nodes, List.mem_append, List.mem_singleton] at hx
  rcases hx with q | rfl
  ·exact can_noref t _ h.2 _ x q
  ·exact (by decide : (7 : Int) ≠ 8)
structure EOk (s : List UInt8) (l : List Nd) (t : T) : Prop where
 pat : IsPat l t
 back : ereP (textE t) = .ok l
 fits : ∀ x ∈ l, x.Fits
 noref : ∀ x ∈ l, x.kind ≠ 8
 ok : t.Ok
 size : t.size ≤ 120
 len : l.length = t.size
 nodes : l = t.nodes 0
theorem ere_ok {s : List UInt8} {l : List Nd} (h : ereP s = .ok l) : ∃ t, EOk s l t := by
 by_cases h0 : s = []
 ·have : l = [kindNd 0] := by unfold ereP at h; rw [if_pos h0] at h; cases h; rfl
  subst this
  refine ⟨.leaf (kindNd 0), empty_pat, ?_, ?_, ?_, ⟨by decide, .inl rfl⟩, by decide, rfl, rfl⟩
  ·have : textE (.leaf (kindNd 0)) = [] := rfl
   rw [this]; rfl
  ·intro x hx
   rw [List.mem_singleton.1 hx]
   exact bsmall_fits (by decide) (by decide) (by decide) (by decide) (by decide) (by decide)
  ·intro x hx
   rw [List.mem_singleton.1 hx]
   decide
 ·have ht := ere_tree s h0
  cases hq : treeP s with
  | error e => rw [hq] at ht; simp only at ht; rw [ht] at h; cases h
  | ok t =>
   rw [hq] at ht
   simp only at ht
   by_cases h1 : 120 < t.size
   ·rw [if_pos h1] at ht; rw [ht] at h; cases h
   ·rw [if_neg h1] at ht
    rw [ht] at h
    cases h
    obtain ⟨hc, hn, hg⟩ := tree_can hq
    have htt := tree_text hc hn hg
    have hne : textE t ≠ [] := by
     intro e
     rw [e] at htt
     cases htt
    have hb := ere_tree (textE t) hne
    rw [htt] at hb
    simp only at hb
    rw [if_neg h1] at hb
    exact ⟨t, can_pat hc (by omega) hn, hb, can_fits t _ hc 0 (by omega), can_noref t _ hc 0, can_ok t _ hc, by omega, T.nodes_len t 0, rfl⟩
theorem ere_er {s : List UInt8} {z : Int} {k : Nat} (h : ereP s = .error (z, k)) : (z = 2 ∨ (40 ≤ z ∧ z ≤ 44)) ∧ k ≤ s.length := by
 by_cases h0 : s = []
 ·unfold ereP at h; rw [if_pos h0] at h; cases h
 ·have ht := ere_tree s h0
  cases hq : treeP s with
  | error e =>
   rw [hq] at ht
   simp only at ht
   rw [ht] at h
   cases h
   have := tree_err hq
   exact ⟨.inr ⟨this.1, this.2.1⟩, this.2.2⟩
  | ok t =>
   rw [hq] at ht
   simp only at ht
   by_cases h1 : 120 < t.size
   ·rw [if_pos h1] at ht; rw [ht] at h; cases h; exact ⟨.inl rfl, Nat.zero_le _⟩
   ·rw [if_neg h1] at ht
    rw [ht] at h
    cases h
end Go.Proofs.YtdjcgjkbecncaaaGreatDoor
namespace Go.Proofs.YtdjcgjkbecncaaaGreatDoor
open Go.RowKit
theorem quotE_one : ∀ n : Nat, n < 256 → (decide (0 ≤ Lib.indexByte [46, 91, 92, 40, 41, 42, 43, 63, 123, 125, 124, 94, 36] (UInt8.ofNat n)) = decide (UInt8.ofNat n ∈ quotE)) := by decide +kernel
theorem eshow_c (F : Nat → Bool) (w : World) (hw : Fit w) :
  Calls Tryz.prog 9 #[sv F] w fun e w' => e = .returned (.string ⟨(showE F).toArray⟩) ∧ Below w.heap.size w w' := by
 obtain ⟨w0, hw0⟩ : ∃ w0, w0 = w.alloc (.cells #[.int .u64 (wd F 0), .int .u64 (wd F 1), .int .u64 (wd F 2), .int .u64 (wd F 3)] 24) := ⟨_, rfl⟩
 have hS0 : SB4 w.heap.size F w0 := by rw [hw0]; exact SB4.new hw
 have b0 : Below w.heap.size w w0 := by rw [hw0]; exact (Below.refl _ w).alloc (Nat.le_refl _) _
 have hby := fun w hw => bytesl_c F w hw
 have hsh := fun w hw => show_c F w hw
 have hSH : showE F = if cnt F 256 = 1 then (match bytesL F with | [c] => showE1 c | _ => []) else showP F := rfl
 have hSP : cnt F 256 = 1 → showP F = (match bytesL F with | [c] => showOneP c | _ => []) := fun h => by unfold showP; rw [if_neg (by omega), if_pos h]; rfl
 obtain ⟨R, hR⟩ : ∃ R, R = showE F := ⟨_, rfl⟩
 obtain ⟨Q, hQ⟩ : ∃ Q, Q = showP F := ⟨_, rfl⟩
 rw [← hQ] at hSH hsh hSP
 rw [← hR] at hSH ⊢
 have hbl := bytesL_len F
 generalize cnt F 256 = n at *
 have HSH := Lib.hid hsh
 have HW := Lib.hid hw0
 have HS0 := Lib.hid hS0
 have B0 := Lib.hid b0
 clear hsh hw0 hS0 b0 hR hQ
 by_cases h1 : n = 1
 ·subst h1
  rw [if_pos rfl] at hSH
  replace hSP := hSP rfl
  obtain ⟨c, hc⟩ := List.length_eq_one_iff.1 hbl
  rw [hc] at hSH hby hSP
  simp only at hSH hSP
  have hcl := c.toNat_lt
  have q := quotE_one c.toNat (by omega)
  rw [show UInt8.ofNat c.toNat = c by simp] at q
  have hct := fun w => Tryz.strings_Contains_one ⟨#[46, 91, 92, 40, 41, 42, 43, 63, 123, 125, 124, 94, 36]⟩ c w
  have e1 : (⟨#[46, 91, 92, 40, 41, 42, 43, 63, 123, 125, 124, 94, 36]⟩ : ByteArray).data.toList = [46, 91, 92, 40, 41, 42, 43, 63, 123, 125, 124, 94, 36] := rfl
  rw [e1, q] at hct
  have HBY := Lib.hid hby
  clear hby hbl hc e1 q
  by_cases hin : c ∈ quotE
  ·rw [decide_eq_true hin] at hct
   have hr : R = [92, c] := by rw [hSH]; unfold showE1; rw [if_pos hin]
   rw [hr]
   have HC := Lib.hid hct
   clear hr hin hSH hSP hct HSH
   unfold sv at HBY ⊢
   go_enter Tryz.func9, Tryz.ntmps9
   go_wp2_with fail
   rw [← HW.out]
   clear HW
   have hs := HS0.out
   have z0 := hs.a.c0
   have z1 := hs.a.c1
   have z2 := hs.a.c2
   have z3 := hs.a.c3
   go_wp2_with fail
   refine (HBY.out _ hs.fit).mono ?_
   rintro e w1 ⟨rfl, hB1⟩
   have HB := Lib.hid (B0.out.trans (hB1.mono B0.out.size))
   clear hs hB1 z0 z1 z2 z3
   go_wp2_with fail
   refine (HC.out _).mono ?_
   rintro e w2 ⟨rfl, rfl⟩
   go_wp2
   go_ret
   exact ⟨rfl, HB.out⟩
  ·rw [decide_eq_false hin] at hct
   have hr : R = Q := by rw [hSH, hSP]; unfold showE1; rw [if_neg hin]
   rw [hr]
   have HC := Lib.hid hct
   clear hr hin hSH hSP hct
   unfold sv at HBY HSH ⊢
   go_enter Tryz.func9, Tryz.ntmps9
   go_wp2_with fail
   rw [← HW.out]
   clear HW
   have hs := HS0.out
   have z0 := hs.a.c0
   have z1 := hs.a.c1
   have z2 := hs.a.c2
   have z3 := hs.a.c3
   go_wp2_with fail
   refine (HBY.out _ hs.fit).mono ?_
   rintro e w1 ⟨rfl, hB1⟩
   have hs1 := hs.below hB1
   have HB := Lib.hid (B0.out.trans (hB1.mono B0.out.size))
   clear hs hB1 z0 z1 z2 z3
   go_wp2_with fail
   refine (HC.out _).mono ?_
   rintro e w2 ⟨rfl, rfl⟩
   have z0 := hs1.a.c0
   have z1 := hs1.a.c1
   have z2 := hs1.a.c2
   have z3 := hs1.a.c3
   go_wp2_with fail
   refine (HSH.out _ hs1.fit).mono ?_
   rintro e w3 ⟨rfl, hB3⟩
   have HB3 := Lib.hid (HB.out.trans (hB3.mono HB.out.size))
   go_wp2
   go_ret
   exact ⟨rfl, HB3.out⟩
 ·rw [if_neg h1] at hSH
  subst hSH
  have hle : (((bytesL F).length : Int) == 1) = false := by rw [beq_eq_false_iff_ne]; omega
  obtain ⟨S, hS⟩ : ∃ S : ByteArray, S = ⟨(bytesL F).toArray⟩ := ⟨_, rfl⟩
  have hsz : S.size = (bytesL F).length := by rw [hS]; simp [ByteArray.size]
  rw [← hS] at hby
  have HBY := Lib.hid hby
  clear hby hSP hbl hS h1
  unfold sv at HBY HSH ⊢
  go_enter Tryz.func9, Tryz.ntmps9
  go_wp2_with fail
  rw [← HW.out]
  clear HW
  have hs := HS0.out
  have z0 := hs.a.c0
  have z1 := hs.a.c1
  have z2 := hs.a.c2
  have z3 := hs.a.c3
  go_wp2_with fail
  refine (HBY.out _ hs.fit).mono ?_
  rintro e w1 ⟨rfl, hB1⟩
  have hs1 := hs.below hB1
  have HB := Lib.hid (B0.out.trans (hB1.mono B0.out.size))
  clear hs hB1 z0 z1 z2 z3
  have z0 := hs1.a.c0
  have z1 := hs1.a.c1
  have z2 := hs1.a.c2
  have z3 := hs1.a.c3
  go_wp2_with fail
  refine (HSH.out _ hs1.fit).mono ?_
  rintro e w3 ⟨rfl, hB3⟩
  have HB3 := Lib.hid (HB.out.trans (hB3.mono HB.out.size))
  go_wp2
  go_ret
  exact ⟨rfl, HB3.out⟩
end Go.Proofs.YtdjcgjkbecncaaaGreatDoor
