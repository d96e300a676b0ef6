/- Of no program: a number of times is read as it is written. -/
import Derived.Test.YtdjcgjkbecncaaaGreatDoorJBtBc
import Derived.Test.YtdjcgjkbecncaaaGreatDoorJRxTl
set_option linter.unusedVariables false
set_option linter.unusedSimpArgs false
set_option maxRecDepth 100000
set_option maxHeartbeats 40000000
namespace Go.Proofs.YtdjcgjkbecncaaaGreatDoor
open Go.RowKit Go.Lib
theorem val3 : ∀ n, n < 1000 → valP (dig3 n) = n ∧ (dig3 n).isEmpty = false ∧ (dig3 n).length ≤ 3 ∧ (dig3 n).all isDig = true := by decide +kernel
def NoDig (y : List UInt8) : Prop := ∀ c z, y = c :: z → isDig c = false
theorem takeWhile_pre {p : UInt8 → Bool} : ∀ (x y : List UInt8), x.all p = true → (∀ c z, y = c :: z → p c = false) → (x ++ y).takeWhile p = x
 | [], [], _, _ => rfl
 | [], c :: z, _, h => by simp [h c z rfl]
 | a :: x, y, h, hy => by
  rw [List.all_cons, Bool.and_eq_true] at h
  rw [List.cons_append, List.takeWhile_cons, h.1]
  simp [takeWhile_pre x y h.2 hy]
theorem itoa_nat (n : Nat) (h : n < 1000) : itoa (n : Int) = dig3 n := by
 unfold itoa
 rw [if_neg (by omega)]
 simp [dec3 n h]
theorem numP_itoa {s : List UInt8} {i : Nat} {y : List UInt8} (n : Nat) (hn : n < 1000) (h : s.drop i = itoa (n : Int) ++ y) (hy : NoDig y) : numP s i = ((n : Int), true, i + (itoa (n : Int)).length) := by
 rw [itoa_nat n hn] at h ⊢
 obtain ⟨hv, he, hl, ha⟩ := val3 n hn
 have hd : digsP s i = dig3 n := by
  unfold digsP
  rw [h, List.take_append, List.take_of_length_le hl]
  refine takeWhile_pre _ _ ha (fun c z e => ?_)
  cases y with
  | nil => simp at e
  | cons b w =>
   cases hk : 3 - (dig3 n).length with
   | zero => rw [hk] at e; simp at e
   | succ k =>
    rw [hk, List.take_succ_cons] at e
    have := List.cons.inj e
    rw [← this.1]
    exact hy b w rfl
 unfold numP
 rw [hd, hv, he]
 rfl
theorem isCnt_of {m M : Int} (h : isCnt m M = true) : 0 ≤ m ∧ m ≤ 255 ∧ (M = -1 ∨ (max m 1 ≤ M ∧ M ≤ 255)) := by
 unfold isCnt at h
 split at h
 ·cases h
 ·have := of_decide_eq_true h
  omega
theorem isCountP_of {m M : Int} (h : isCnt m M = true) : isCountP m M = true := by
 obtain ⟨h0, h1, h2⟩ := isCnt_of h
 unfold isCountP
 rw [if_neg (by omega)]
 simp only [Bool.or_eq_true, Bool.and_eq_true, decide_eq_true_iff]
 omega
theorem noDig_cons {c : UInt8} {y : List UInt8} (h : isDig c = false) : NoDig (c :: y) := fun a z e => by cases e; exact h
theorem timesP_timesT {s : List UInt8} {i : Nat} {y : List UInt8} {m M : Int} (hc : isCnt m M = true) (h : s.drop i = timesT m M ++ y) : timesP s i = some (m, M, i + (timesT m M).length) := by
 obtain ⟨h0, h1, h2⟩ := isCnt_of hc
 have hcp := isCountP_of hc
 obtain ⟨a, rfl⟩ : ∃ a : Nat, m = a := ⟨m.toNat, by omega⟩
 unfold timesP
 by_cases hz : (a : Int) = 0 ∧ M = -1
 ·have ht : timesT (a : Int) M = [42] := by unfold timesT; rw [if_pos hz]
  rw [ht] at h ⊢
  rw [ah_drop h]
  obtain ⟨e1, e2⟩ := hz
  rw [e1, e2]
  rfl
 ·obtain ⟨X, hX⟩ : ∃ X, X = (if M = a then itoa (a : Int) else if M = -1 then itoa (a : Int) ++ [44] else itoa (a : Int) ++ [44] ++ itoa M) := ⟨_, rfl⟩
  have ht : timesT (a : Int) M = [92, 123] ++ X ++ [92, 125] := by unfold timesT; rw [if_neg hz, hX]
  rw [ht] at h ⊢
  have hh : s.drop i = 92 :: 123 :: (X ++ ([92, 125] ++ y)) := by rw [h]; simp
  have ha42 : ah s i [42] = false := by rw [ah_drop hh]; rfl
  have ha92 : ah s i [92, 123] = true := by rw [ah_drop hh]; simp [List.isPrefixOf]
  have hsk : sk s i [92, 123] = i + 2 := by unfold sk; rw [ha92]; rfl
  have hd : s.drop (i + 2) = X ++ ([92, 125] ++ y) := drop_step (x := [92, 123]) hh
  rw [ha42, hsk]
  simp only [Bool.false_eq_true, if_false]
  by_cases e1 : M = a
  ·rw [if_pos e1] at hX
   subst hX
   have hn := numP_itoa a (by omega) hd (noDig_cons (by decide))
   have hd2 := drop_step hd
   have hk : ah s (i + 2 + (itoa (a : Int)).length) [44] = false := by rw [ah_drop hd2]; rfl
   have hk2 : ah s (i + 2 + (itoa (a : Int)).length) [92, 125] = true := by rw [ah_drop hd2]; simp [List.isPrefixOf]
   rw [hn]
   simp only [hk, hk2, Bool.false_eq_true, if_false]
   rw [e1] at hcp
   simp only [hcp]
   simp only [Bool.not_true, Bool.or_false, Bool.false_eq_true, if_false]
   rw [e1]
   simp
   omega
  ·rw [if_neg e1] at hX
   by_cases e2 : M = -1
   ·rw [if_pos e2] at hX
    subst hX
    have hd' : s.drop (i + 2) = itoa (a : Int) ++ (44 :: ([92, 125] ++ y)) := by rw [hd]; simp
    have hn := numP_itoa a (by omega) hd' (noDig_cons (by decide))
    have hd2 := drop_step hd'
    have hd3 := drop_cons hd2
    have hk : ah s (i + 2 + (itoa (a : Int)).length) [44] = true := by rw [ah_drop hd2]; simp [List.isPrefixOf]
    have hk2 : ah s (i + 2 + (itoa (a : Int)).length + 1) [92, 125] = true := by rw [ah_drop hd3]; simp [List.isPrefixOf]
    rw [hn]
    simp only [hk, hk2, if_true]
    rw [e2] at hcp
    simp only [hcp]
    simp only [Bool.not_true, Bool.or_false, Bool.false_eq_true, if_false]
    rw [e2]
    simp
    omega
   ·rw [if_neg e2] at hX
    obtain ⟨b, rfl⟩ : ∃ b : Nat, M = b := ⟨M.toNat, by omega⟩
    subst hX
    have hd' : s.drop (i + 2) = itoa (a : Int) ++ (44 :: (itoa (b : Int) ++ ([92, 125] ++ y))) := by rw [hd]; simp
    have hn := numP_itoa a (by omega) hd' (noDig_cons (by decide))
    have hd2 := drop_step hd'
    have hd3 := drop_cons hd2
    have hn2 := numP_itoa b (by omega) hd3 (noDig_cons (by decide))
    have hd4 := drop_step hd3
    have hk : ah s (i + 2 + (itoa (a : Int)).length) [44] = true := by rw [ah_drop hd2]; simp [List.isPrefixOf]
    have hk2 : ah s (i + 2 + (itoa (a : Int)).length + 1) [92, 125] = false := by
     rw [ah_drop hd3, itoa_nat b (by omega)]
     have := val3 b (by omega)
     cases hq : dig3 b with
     | nil => rw [hq] at this; simp at this
     | cons c z =>
      rw [hq] at this
      have hcd : isDig c = true := by
       have := this.2.2.2
       simp only [List.all_cons, Bool.and_eq_true] at this
       exact this.1
      simp [List.isPrefixOf]
      intro e
      subst e
      exact absurd hcd (by decide)
    have hk3 : ah s (i + 2 + (itoa (a : Int)).length + 1 + (itoa (b : Int)).length) [92, 125] = true := by rw [ah_drop hd4]; simp [List.isPrefixOf]
    rw [hn]
    simp only [hk, hk2, if_true, Bool.false_eq_true, if_false]
    rw [hn2]
    simp only [hk3, hcp]
    simp only [Bool.not_true, Bool.or_false, Bool.false_eq_true, if_false]
    simp
    omega
end Go.Proofs.YtdjcgjkbecncaaaGreatDoor
namespace Go.Proofs.YtdjcgjkbecncaaaGreatDoor
open Go.RowKit Go.Lib
def T.isTimes : T → Bool
 | .times _ _ _ => true
 | _ => false
def T.isTwo : T → Bool
 | .two _ _ _ => true
 | _ => false
def T.isLeaf (k : Int) : T → Bool
 | .leaf x => decide (x.kind = k)
 | _ => false
def Canon : Bool → Bool → T → Prop
 | fi, la, .leaf x => isNd x = true ∧ x.Fits ∧ (x.kind = 1 ∨ x.kind = 8 ∨ (x.kind = 2 ∧ fi = true) ∨ (x.kind = 3 ∧ la = true))
 | fi, la, .two k a b => la = true ∧ k = 4 ∧ Canon fi false a ∧ Canon false true b
 | fi, la, .times m M t => isCnt m M = true ∧ t.isTimes = false ∧ Canon false false t
 | fi, la, .group n t => isNum n = true ∧ Canon true true t
theorem put_app {r : BRd} {x : Nd} (h : r.l.length ≤ 120) : r.put x = { r with l := r.l ++ [x] } := by
 unfold BRd.put
 rw [if_pos h]
theorem canon_ok : ∀ (t : T) (fi la : Bool), Canon fi la t → t.Ok
 | .leaf x, fi, la, h => ⟨h.1, by rcases h.2.2 with q | q | q | q <;> omega⟩
 | .two k a b, fi, la, h => ⟨.inl h.2.1, canon_ok a _ _ h.2.2.1, canon_ok b _ _ h.2.2.2⟩
 | .times m M t, fi, la, h => ⟨h.1, canon_ok t _ _ h.2.2⟩
 | .group n t, fi, la, h => ⟨h.1, canon_ok t _ _ h.2⟩
def Hd2 (x : List UInt8) : Prop := ∃ c y, x = c :: y ∧ c ≠ 42 ∧ c ≠ 94 ∧ (c = 92 → ∃ d z, y = d :: z ∧ d ≠ 123 ∧ d ≠ 41)
theorem Hd2.hd {x : List UInt8} (h : Hd2 x) : Hd x := by
 obtain ⟨c, y, e, h1, _, h2⟩ := h
 exact ⟨c, y, e, h1, h2⟩
theorem Hd2.app {x : List UInt8} (h : Hd2 x) (y : List UInt8) : Hd2 (x ++ y) := by
 obtain ⟨c, z, rfl, h1, h2, h3⟩ := h
 refine ⟨c, z ++ y, rfl, h1, h2, fun e => ?_⟩
 obtain ⟨d, v, rfl, a, b⟩ := h3 e
 exact ⟨d, v ++ y, rfl, a, b⟩
theorem showOneP_hd (c : UInt8) : Hd2 (showOneP c) := by
 unfold showOneP
 split
 ·exact ⟨92, [110], rfl, by decide, by decide, fun _ => ⟨110, [], rfl, by decide, by decide⟩⟩
 split
 ·rename_i h
  refine ⟨92, [c], rfl, by decide, by decide, fun _ => ⟨c, [], rfl, ?_, ?_⟩⟩
  ·rintro rfl; exact absurd h (by decide)
  ·rintro rfl; exact absurd h (by decide)
 ·rename_i h
  refine ⟨c, [], rfl, ?_, ?_, fun e => ?_⟩
  ·rintro rfl; exact absurd h (by decide)
  ·rintro rfl; exact absurd h (by decide)
  ·subst e; exact absurd h (by decide)
theorem showP_hd (F : Nat → Bool) (h : cnt F 256 ≠ 0) : Hd2 (showP F) := by
 unfold showP
 rw [if_neg h]
 split
 ·rename_i h1
  have := bytesL_len F
  rw [h1] at this
  obtain ⟨c, hc⟩ := List.length_eq_one_iff.1 this
  rw [hc]
  exact showOneP_hd c
 split
 ·exact ⟨46, [], rfl, by decide, by decide, fun e => absurd e (by decide)⟩
 ·exact ⟨91, listP F ++ [93], by simp, by decide, by decide, fun e => absurd e (by decide)⟩
theorem wd_of_zero {F : Nat → Bool} (hz : cnt F 256 = 0) (k : Nat) (hk : k < 4) : wd F k = 0 := by
 have := wd_congr (f := F) (g := fun _ => false) hk (fun i hi => cnt_zero hz i hi)
 rw [this]
 exact wdNone k
theorem nd_cnt {x : Nd} (h : isNd x = true) (hk : x.kind = 1) (hf : x.Fits) : cnt x.set 256 ≠ 0 ∧ x = byNd x.set := by
 obtain ⟨a0, a1, a2, a3⟩ := ofWords_wd hf.s0 hf.s1 hf.s2 hf.s3
 unfold isNd at h
 rw [if_neg (by omega), if_pos hk, Bool.and_eq_true] at h
 have h1 := of_decide_eq_true h.1
 have h2 := of_decide_eq_true h.2
 have e0 : wd x.set 0 = x.w0 := a0
 have e1 : wd x.set 1 = x.w1 := a1
 have e2 : wd x.set 2 = x.w2 := a2
 have e3 : wd x.set 3 = x.w3 := a3
 generalize x.set = G at *
 constructor
 ·intro hz
  exact h1 ⟨by rw [← e0]; exact wd_of_zero hz 0 (by omega), by rw [← e1]; exact wd_of_zero hz 1 (by omega), by rw [← e2]; exact wd_of_zero hz 2 (by omega), by rw [← e3]; exact wd_of_zero hz 3 (by omega)⟩
 ·unfold byNd
  rw [e0, e1, e2, e3]
  exact h2
theorem itoa_ref {n : Int} (h : isNum n = true) : itoa n = [UInt8.ofNat (48 + n.toNat)] := digit_one h
theorem text_hd : ∀ (t : T) (la : Bool), Canon false la t → Hd2 (textT t)
 | .leaf x, la, h => by
  obtain ⟨hn, hf, hk⟩ := h
  unfold textT
  rcases hk with k | k | k | k
  ·rw [if_pos k]; exact showP_hd _ (nd_cnt hn k hf).1
  ·rw [if_neg (by omega), if_neg (by omega), if_neg (by omega), if_pos k, itoa_ref (isNd_ref hn k).1]
   have := num_of (isNd_ref hn k).1
   refine ⟨92, [UInt8.ofNat (48 + x.n.toNat)], rfl, by decide, by decide, fun _ => ⟨_, [], rfl, ?_, ?_⟩⟩ <;>
    (intro e; have := congrArg UInt8.toNat e; rw [UInt8.toNat_ofNat'] at this; simp at this; omega)
  ·exact absurd k.2 (by decide)
  ·rw [if_neg (by omega), if_neg (by omega), if_pos k.1]
   exact ⟨36, [], rfl, by decide, by decide, fun e => absurd e (by decide)⟩
 | .two k a b, la, h => by
  show Hd2 (if k = 4 then textT a ++ textT b else [124])
  rw [if_pos h.2.1]
  exact (text_hd a false h.2.2.1).app _
 | .times m M t, la, h => (text_hd t false h.2.2).app _
 | .group n t, la, h => by
  refine ⟨92, 40 :: (textT t ++ [92, 41]), by simp [textT], by decide, by decide, fun _ => ⟨40, _, rfl, by decide, by decide⟩⟩
theorem beh_none {s : List UInt8} {r : BRd} {y : List UInt8} (h : s.drop r.p = y) (hy : Hd y ∨ RowEnd y) : behP s r = .ok ((r.l.length : Int) - 1, r) := by
 unfold behP
 rw [isTimes_hd h hy]
 rfl
theorem isTimes_times {s : List UInt8} {i : Nat} {m M : Int} {y : List UInt8} (h : s.drop i = timesT m M ++ y) : isTimesP s i = true := by
 unfold isTimesP
 rw [ah_drop h, ah_drop h]
 unfold timesT
 split
 ·rfl
 ·simp [List.isPrefixOf]
theorem beh_times {s : List UInt8} {r : BRd} {m M : Int} {y : List UInt8} (hc : isCnt m M = true) (h : s.drop r.p = timesT m M ++ y) (hy : Hd y ∨ RowEnd y) (hl : r.l.length ≤ 119) :
  behP s r = .ok ((r.l.length : Int), ⟨r.p + (timesT m M).length, r.l ++ [⟨6, 0, 0, 0, 0, (r.l.length : Int) - 1, 0, m, M, 0⟩], r.g, r.en⟩) := by
 unfold behP
 rw [isTimes_times h, timesP_timesT hc h]
 simp only [Bool.not_true, Bool.false_eq_true, if_false]
 rw [isTimes_hd (drop_step h) hy]
 simp only [Bool.false_eq_true, if_false]
 have hp : (r.to (r.p + (timesT m M).length)).put ⟨6, 0, 0, 0, 0, (r.l.length : Int) - 1, 0, m, M, 0⟩ = { (r.to (r.p + (timesT m M).length)) with l := r.l ++ [⟨6, 0, 0, 0, 0, (r.l.length : Int) - 1, 0, m, M, 0⟩] } := put_app (show (r.to _).l.length ≤ 120 by show r.l.length ≤ 120; omega)
 rw [hp]
 simp [BRd.to]
theorem item_bytes {s : List UInt8} {row : BRd → Except Er (Bool × BRd)} {r : BRd} {F : Nat → Bool} {y : List UInt8} (hF : cnt F 256 ≠ 0) (h : s.drop r.p = showP F ++ y) (hl : r.l.length ≤ 120) :
  itemP s row r = behP s ⟨r.p + (showP F).length, r.l ++ [byNd F], r.g, r.en⟩ := by
 have fin : ∀ (q : BRd) (G : Nat → Bool) (k : Nat), q.l = r.l → q.g = r.g → q.en = r.en → (∀ i, i < 256 → G i = F i) → k = (showP F).length → (q.to (r.p + k)).put (byNd G) = ⟨r.p + (showP F).length, r.l ++ [byNd F], r.g, r.en⟩ := fun q G k h1 h2 h3 h4 h5 => by
  have e : byNd G = byNd F := by
   unfold byNd
   rw [wd_congr (k := 0) (by omega) h4, wd_congr (k := 1) (by omega) h4, wd_congr (k := 2) (by omega) h4, wd_congr (k := 3) (by omega) h4]
  rw [put_app (show (q.to (r.p + k)).l.length ≤ 120 by show q.l.length ≤ 120; rw [h1]; exact hl), e]
  simp [BRd.to, h1, h2, h3, h5]
 unfold showP at h fin ⊢
 rw [if_neg hF] at h fin ⊢
 by_cases h1 : cnt F 256 = 1
 ·rw [if_pos h1] at h fin ⊢
  have hb := bytesL_len F
  rw [h1] at hb
  obtain ⟨c, hc⟩ := List.length_eq_one_iff.1 hb
  rw [hc] at h fin ⊢
  simp only at h fin ⊢
  have hFc : ∀ i, i < 256 → rg c.toNat c.toNat i = F i := fun i hi => by
   have := inS_bytesOf F i hi
   unfold inS at this
   have hcl : (bytesOf F).data.toList = [c] := hc
   rw [hcl, bytesOf_size, h1] at this
   rw [← this]
   show (decide (c.toNat ≤ i) && decide (i ≤ c.toNat)) = _
   rw [Bool.eq_iff_iff]
   simp
   omega
  unfold showOneP at h fin ⊢
  by_cases e10 : c = 10
  ·rw [if_pos e10] at h fin ⊢
   subst e10
   have a0 := atDrop h
   have a1 := atDrop (drop_cons h)
   unfold itemP
   rw [a0]
   simp only
   rw [if_neg (by decide), if_neg (by decide), if_pos (by trivial)]
   unfold escP
   rw [show (r.to (r.p + 1)).p = r.p + 1 from rfl, a1]
   simp only
   rw [if_neg (by decide), if_neg (by decide), if_pos (by trivial)]
   simp only
   rw [show ((r.to (r.p + 1)).to (r.p + 1 + 1)) = ((r.to (r.p + 1)).to (r.p + 2)) from rfl, fin (r.to (r.p + 1)) (rg 10 10) 2 rfl rfl rfl hFc rfl]
  ·rw [if_neg e10] at h fin ⊢
   by_cases hq : c ∈ ([46, 91, 92, 42, 94, 36] : List UInt8)
   ·rw [if_pos hq] at h fin ⊢
    have a0 := atDrop h
    have a1 := atDrop (drop_cons h)
    unfold itemP
    rw [a0]
    simp only
    rw [if_neg (by decide), if_neg (by decide), if_pos (by trivial)]
    unfold escP
    rw [show (r.to (r.p + 1)).p = r.p + 1 from rfl, a1]
    simp only
    have n1 : ¬ c = 40 := by rintro rfl; exact absurd hq (by decide)
    have n2 : ¬ (decide (49 ≤ c.toNat) && decide (c.toNat ≤ 57)) = true := by
     simp only [List.mem_cons, List.not_mem_nil, or_false] at hq
     rcases hq with rfl | rfl | rfl | rfl | rfl | rfl <;> decide
    have n3 : ¬ c = 110 := by rintro rfl; exact absurd hq (by decide)
    rw [if_neg n1, if_neg n2, if_neg n3, if_pos (.inr hq)]
    simp only
    rw [show ((r.to (r.p + 1)).to (r.p + 1 + 1)) = ((r.to (r.p + 1)).to (r.p + 2)) from rfl, fin (r.to (r.p + 1)) (rg c.toNat c.toNat) 2 rfl rfl rfl hFc rfl]
   ·rw [if_neg hq] at h fin ⊢
    have a0 := atDrop h
    unfold itemP
    rw [a0]
    simp only
    have n1 : ¬ c = 46 := by rintro rfl; exact absurd hq (by decide)
    have n2 : ¬ c = 91 := by rintro rfl; exact absurd hq (by decide)
    have n3 : ¬ c = 92 := by rintro rfl; exact absurd hq (by decide)
    have n4 : ¬ (c = 36 ∧ endsP s (r.p + 1) = true) := by rintro ⟨rfl, _⟩; exact absurd hq (by decide)
    rw [if_neg n1, if_neg n2, if_neg n3, if_neg n4, fin r (rg c.toNat c.toNat) 1 rfl rfl rfl hFc rfl]
 ·rw [if_neg h1] at h fin ⊢
  by_cases h2 : cnt F 256 = 256
  ·rw [if_pos h2] at h fin ⊢
   have a0 := atDrop h
   unfold itemP
   rw [a0]
   simp only
   rw [if_pos (by trivial), fin r (fun _ => true) 1 rfl rfl rfl (fun i hi => (cnt_full h2 i hi).symm) rfl]
  ·rw [if_neg h2] at h fin ⊢
   have a0 := atDrop (show s.drop r.p = 91 :: (listP F ++ [93] ++ y) by rw [h]; simp)
   obtain ⟨G, hG, hGF⟩ := brkP_list F y hF h1 h2
   unfold itemP
   rw [a0]
   simp only
   rw [if_neg (by decide), if_pos (by trivial), h, hG]
   simp only
   rw [fin r G _ rfl rfl rfl hGF (by simp)]
end Go.Proofs.YtdjcgjkbecncaaaGreatDoor
namespace Go.Proofs.YtdjcgjkbecncaaaGreatDoor
open Go.RowKit Go.Lib
def BRd.after (r : BRd) (k : Nat) (xs : List Nd) (u : Nat × (Nat → Bool)) : BRd := ⟨r.p + k, r.l ++ xs, u.1, u.2⟩
def T.idxs : T → Nat → List Int
 | .two k a b, o => ((o : Int) + a.size - 1) :: b.idxs (o + a.size)
 | .leaf x, o => [(o : Int)]
 | .times m M t, o => [(o : Int) + (T.times m M t).size - 1]
 | .group n t, o => [(o : Int) + (T.group n t).size - 1]
def T.leaves : T → Nat → List Nd
 | .two k a b, o => a.nodes o ++ b.leaves (o + a.size)
 | .leaf x, o => [x]
 | .times m M t, o => (T.times m M t).nodes o
 | .group n t, o => (T.group n t).nodes o
theorem idxs_one {t : T} (h : t.isTwo = false) (o : Nat) : t.idxs o = [(o : Int) + t.size - 1] := by
 cases t with
 | two k a b => cases h
 | leaf x =>
  show [(o : Int)] = [(o : Int) + (1 : Nat) - 1]
  congr 1
  omega
 | times m M t => rfl
 | group n t => rfl
theorem leaves_one {t : T} (h : t.isTwo = false) (o : Nat) : t.leaves o = t.nodes o := by
 cases t with
 | two k a b => cases h
 | leaf x => rfl
 | times m M t => rfl
 | group n t => rfl
theorem num_mono : ∀ (t : T) (s u : Nat × (Nat → Bool)), num t s = some u → s.1 ≤ u.1
 | .leaf x, s, u, h => by
  simp only [num] at h
  split at h
  ·split at h
   ·cases h; exact Nat.le_refl _
   ·cases h
  ·cases h; exact Nat.le_refl _
 | .two k a b, s, u, h => by
  simp only [num, Option.bind_eq_some_iff] at h
  obtain ⟨v, h1, h2⟩ := h
  exact Nat.le_trans (num_mono a s v h1) (num_mono b v u h2)
 | .times m M t, s, u, h => num_mono t s u h
 | .group n t, s, u, h => by
  simp only [num] at h
  split at h
  ·simp only [Option.map_eq_some_iff] at h
   obtain ⟨v, h1, rfl⟩ := h
   have := num_mono t _ v h1
   simp only at this
   show s.1 ≤ v.1
   omega
  ·cases h
theorem catsP_snoc (a : Int) : ∀ (tl : List Int) (r : BRd) (b : Int), b = (r.l.length : Int) - 1 → catsP (tl ++ [a]) r b = (catsP tl r b).put ⟨4, 0, 0, 0, 0, a, ((catsP tl r b).l.length : Int) - 1, 0, 0, 0⟩
 | [], r, b, h => by
  subst h
  rfl
 | x :: tl, r, b, h => by
  rw [List.cons_append, catsP, catsP]
  exact catsP_snoc a tl _ _ rfl
theorem cats_all : ∀ (t : T) (fi : Bool), Canon fi true t → ∀ (pre : List Nd) (r : BRd), r.l = pre ++ t.leaves pre.length → pre.length + t.size ≤ 120 →
  ∃ b tl, (t.idxs pre.length).reverse = b :: tl ∧ b = (r.l.length : Int) - 1 ∧ catsP tl r b = { r with l := pre ++ t.nodes pre.length }
 | .leaf x, fi, hc, pre, r, hr, hs => by
  refine ⟨(pre.length : Int), [], rfl, ?_, ?_⟩
  ·rw [hr]; simp [T.leaves]
  ·rw [catsP, T.nodes, ← show T.leaves (.leaf x) pre.length = [x] from rfl, ← hr]
 | .times m M t, fi, hc, pre, r, hr, hs => by
  refine ⟨_, [], rfl, ?_, ?_⟩
  ·rw [hr, List.length_append, leaves_one rfl, T.nodes_len]; omega
  ·rw [catsP, ← leaves_one (t := .times m M t) rfl, ← hr]
 | .group n t, fi, hc, pre, r, hr, hs => by
  refine ⟨_, [], rfl, ?_, ?_⟩
  ·rw [hr, List.length_append, leaves_one rfl, T.nodes_len]; omega
  ·rw [catsP, ← leaves_one (t := .group n t) rfl, ← hr]
 | .two k a b, fi, hc, pre, r, hr, hs => by
  obtain ⟨_, rfl, _, hb⟩ := hc
  have hl : (pre ++ a.nodes pre.length).length = pre.length + a.size := by rw [List.length_append, T.nodes_len]
  have hs' : pre.length + (a.size + b.size + 1) ≤ 120 := hs
  obtain ⟨b0, tl, h1, h2, h3⟩ := cats_all b false hb (pre ++ a.nodes pre.length) r (by rw [hl, hr, List.append_assoc]; rfl) (by omega)
  rw [hl] at h1 h3
  refine ⟨b0, tl ++ [(pre.length : Int) + a.size - 1], ?_, h2, ?_⟩
  ·show (((pre.length : Int) + a.size - 1) :: b.idxs (pre.length + a.size)).reverse = _
   rw [List.reverse_cons, h1]; rfl
  ·have hn : (pre ++ a.nodes pre.length ++ b.nodes (pre.length + a.size)).length = pre.length + a.size + b.size := by rw [List.length_append, hl, T.nodes_len]
   rw [catsP_snoc _ tl r b0 h2, h3, put_app (show (pre ++ a.nodes pre.length ++ b.nodes (pre.length + a.size)).length ≤ 120 by omega)]
   simp only [hn]
   simp only [T.nodes, T.root, List.append_assoc]
   congr 5
theorem put_app' {p g : Nat} {l : List Nd} {en : Nat → Bool} {x : Nd} (h : l.length ≤ 120) : BRd.put ⟨p, l, g, en⟩ x = ⟨p, l ++ [x], g, en⟩ := put_app (r := ⟨p, l, g, en⟩) h
def AR (t : T) : Prop := ∀ (s : List UInt8) (f : Nat) (r : BRd) (y : List UInt8) (u : Nat × (Nat → Bool)), s.drop r.p = textT t ++ y → r.p ≤ s.length → num t (r.g, r.en) = some u → r.l.length + t.size ≤ 120 → 9 ≤ f + r.g →
 itemP s (rowP s f) r = behP s (r.after (textT t).length (t.nodes r.l.length) u)
def IR (t : T) : Prop := ∀ (s : List UInt8) (f : Nat) (r : BRd) (y : List UInt8) (u : Nat × (Nat → Bool)), s.drop r.p = textT t ++ y → r.p ≤ s.length → (Hd y ∨ RowEnd y) → (t.isLeaf 3 = true → RowEnd y) → num t (r.g, r.en) = some u → r.l.length + t.size ≤ 120 → 9 ≤ f + r.g →
 itemP s (rowP s f) r = .ok ((r.l.length : Int) + t.size - 1, r.after (textT t).length (t.nodes r.l.length) u)
def RR (t : T) : Prop := ∀ (s : List UInt8) (f : Nat) (r : BRd) (y : List UInt8) (u : Nat × (Nat → Bool)) (ps : List Int) (fu : Nat), s.drop r.p = textT t ++ y → r.p ≤ s.length → RowEnd y → num t (r.g, r.en) = some u → r.l.length + t.size ≤ 120 → 9 ≤ f + r.g → s.length < fu + r.p →
 itemsP s (rowP s f) fu r ps = .ok (ps ++ t.idxs r.l.length, r.after (textT t).length (t.leaves r.l.length) u)
def WR (t : T) : Prop := ∀ (s : List UInt8) (f : Nat) (r : BRd) (y : List UInt8) (u : Nat × (Nat → Bool)), s.drop r.p = textT t ++ y → r.p ≤ s.length → RowEnd y → num t (r.g, r.en) = some u → r.l.length + t.size ≤ 120 → 9 ≤ f + r.g →
 rowP s (f + 1) r = .ok (true, r.after (textT t).length (t.nodes r.l.length) u)
theorem IR_of_AR {t : T} (ha : AR t) (h3 : t.isLeaf 3 = false) : IR t := fun s f r y u hd hp hy _ hn hs hf => by
 rw [ha s f r y u hd hp hn hs hf, beh_none (show s.drop (r.p + (textT t).length) = y from drop_step hd) hy]
 have : ((r.after (textT t).length (t.nodes r.l.length) u).l.length : Int) - 1 = (r.l.length : Int) + t.size - 1 := by
  show ((r.l ++ t.nodes r.l.length).length : Int) - 1 = _
  rw [List.length_append, T.nodes_len]; omega
 rw [this]
theorem AR_leaf1 {x : Nd} (hn : isNd x = true) (hf : x.Fits) (hk : x.kind = 1) : AR (.leaf x) := fun s f r y u hd hp hu hs hfu => by
 obtain ⟨hc, hx⟩ := nd_cnt hn hk hf
 have ht : textT (.leaf x) = showP x.set := by unfold textT; rw [if_pos hk]
 have h1 : r.l.length ≤ 119 := by have : (T.leaf x).size = 1 := rfl; omega
 rw [ht] at hd ⊢
 have hu' : u = (r.g, r.en) := by
  simp only [num] at hu
  rw [if_neg (by omega)] at hu
  cases hu; rfl
 rw [item_bytes hc hd (by omega), ← hx, hu']
 rfl
theorem AR_leaf8 {x : Nd} (hn : isNd x = true) (hk : x.kind = 8) : AR (.leaf x) := fun s f r y u hd hp hu hs hfu => by
 obtain ⟨hm, hx⟩ := isNd_ref hn hk
 have hb := num_of hm
 have ht : textT (.leaf x) = [92, UInt8.ofNat (48 + x.n.toNat)] := by
  unfold textT
  rw [if_neg (by omega), if_neg (by omega), if_neg (by omega), if_pos hk, itoa_ref hm]
  rfl
 have h1 : r.l.length ≤ 119 := by have : (T.leaf x).size = 1 := rfl; omega
 rw [ht] at hd ⊢
 obtain ⟨b, hbd⟩ : ∃ b, b = UInt8.ofNat (48 + x.n.toNat) := ⟨_, rfl⟩
 have hbn : b.toNat = 48 + x.n.toNat := by rw [hbd, UInt8.toNat_ofNat']; omega
 rw [← hbd] at hd ⊢
 simp only [num] at hu
 rw [if_pos hk] at hu
 split at hu
 ·rename_i hen
  cases hu
  have a0 := atDrop hd
  have a1 := atDrop (drop_cons hd)
  unfold itemP
  rw [a0]
  simp only
  rw [if_neg (by decide), if_neg (by decide), if_pos (by trivial)]
  unfold escP
  rw [show (r.to (r.p + 1)).p = r.p + 1 from rfl, a1]
  simp only
  have n1 : ¬ b = 40 := by intro e; rw [e] at hbn; simp at hbn; omega
  have n2 : (decide (49 ≤ b.toNat) && decide (b.toNat ≤ 57)) = true := by
   rw [Bool.and_eq_true, decide_eq_true_iff, decide_eq_true_iff]; omega
  have n3 : (r.to (r.p + 1)).en (b.toNat - 48) = true := by
   have e : b.toNat - 48 = x.n.toNat := by omega
   rw [e]; exact hen
  rw [if_neg n1, if_pos n2, n3]
  simp only [Bool.not_true, Bool.false_eq_true, if_false]
  have e2 : (b.toNat : Int) - 48 = x.n := by omega
  rw [e2, ← hx, put_app (show ((r.to (r.p + 1)).to (r.p + 1 + 1)).l.length ≤ 120 by show r.l.length ≤ 120; omega)]
  rfl
 ·cases hu
theorem IR_end {x : Nd} (hn : isNd x = true) (hk : x.kind = 3) : IR (.leaf x) := fun s f r y u hd hp hy h3 hu hs hf => by
 have hx : x = kindNd 3 := by
  unfold isNd at hn
  rw [if_pos (by omega), decide_eq_true_iff, hk] at hn
  exact hn
 have ht : textT (.leaf x) = [36] := by
  unfold textT
  rw [if_neg (by omega), if_neg (by omega), if_pos hk]
 have h1 : r.l.length ≤ 119 := by have : (T.leaf x).size = 1 := rfl; omega
 have hend := h3 (by simp [T.isLeaf, hk])
 rw [ht] at hd ⊢
 have hu' : u = (r.g, r.en) := by
  simp only [num] at hu
  rw [if_neg (by omega)] at hu
  cases hu; rfl
 have a0 := atDrop hd
 have hl : r.p + 1 ≤ s.length := by
  have := len_drop hd hp
  simp at this
  omega
 have he := ends_end (drop_cons hd) hl hend
 unfold itemP
 rw [a0]
 simp only
 rw [if_neg (by decide), if_neg (by decide), if_neg (by decide), he, if_pos (by decide)]
 have hpp : (r.to (r.p + 1)).put (kindNd 3) = { (r.to (r.p + 1)) with l := r.l ++ [kindNd 3] } := put_app (show r.l.length ≤ 120 by omega)
 rw [hpp, hu']
 simp only [T.nodes, hx]
 congr 2
 show ((r.l ++ [kindNd 3]).length : Int) - 1 = (r.l.length : Int) + (1 : Nat) - 1
 simp
theorem IR_times {m M : Int} {t : T} (hc : isCnt m M = true) (ha : AR t) : IR (.times m M t) := fun s f r y u hd hp hy _ hn hs hf => by
 have ht : textT (.times m M t) = textT t ++ timesT m M := rfl
 have hsz : (T.times m M t).size = t.size + 1 := rfl
 rw [ht, List.append_assoc] at hd
 rw [ha s f r (timesT m M ++ y) u hd hp hn (by omega) hf]
 have hl : (r.after (textT t).length (t.nodes r.l.length) u).l.length = r.l.length + t.size := by
  show (r.l ++ t.nodes r.l.length).length = _
  rw [List.length_append, T.nodes_len]
 rw [beh_times hc (show s.drop (r.p + (textT t).length) = timesT m M ++ y from drop_step hd) hy (by rw [hl]; omega), hl, ht, hsz]
 unfold BRd.after
 simp only [T.nodes, T.root, List.length_append, List.append_assoc]
 congr 2
 ·omega
 ·congr 1
  all_goals first | omega | (congr 4; omega) | (congr 4)
theorem AR_group {n : Int} {t : T} (hn : isNum n = true) (hw : WR t) : AR (.group n t) := fun s f r y u hd hp hu hs hf => by
 have ht : textT (.group n t) = [92, 40] ++ textT t ++ [92, 41] := rfl
 have hsz : (T.group n t).size = t.size + 1 := rfl
 have hb := num_of hn
 have hd0 : s.drop r.p = 92 :: 40 :: (textT t ++ (92 :: 41 :: y)) := by rw [hd, ht]; simp
 have hd2 : s.drop (r.p + 2) = textT t ++ (92 :: 41 :: y) := drop_step (x := [92, 40]) hd0
 have hd3 := drop_step hd2
 simp only [num] at hu
 split at hu
 ·rename_i e
  simp only [Option.map_eq_some_iff] at hu
  obtain ⟨v, hv, rfl⟩ := hu
  obtain ⟨f', rfl⟩ : ∃ f', f = f' + 1 := ⟨f - 1, by omega⟩
  have hl2 : r.p + 2 ≤ s.length := by
   have := len_drop hd0 hp
   simp at this
   omega
  have W := hw s f' ⟨r.p + 2, r.l, r.g + 1, r.en⟩ (92 :: 41 :: y) v hd2 hl2 (.inr ⟨y, rfl⟩) hv (by show r.l.length + t.size ≤ 120; omega) (by show 9 ≤ f' + (r.g + 1); omega)
  have a0 := atDrop hd0
  have a1 := atDrop (drop_cons hd0)
  unfold itemP
  rw [a0]
  simp only
  rw [if_neg (by decide), if_neg (by decide), if_pos (by trivial)]
  unfold escP
  rw [show (r.to (r.p + 1)).p = r.p + 1 from rfl, a1]
  simp only
  rw [if_pos (by trivial)]
  unfold grpP
  rw [if_neg (by show ¬ r.g = 9; omega)]
  rw [show ({ ((r.to (r.p + 1)).to (r.p + 1 + 1)) with g := ((r.to (r.p + 1)).to (r.p + 1 + 1)).g + 1 } : BRd) = ⟨r.p + 2, r.l, r.g + 1, r.en⟩ from rfl, W]
  simp only
  have hah : ah s (BRd.after ⟨r.p + 2, r.l, r.g + 1, r.en⟩ (textT t).length (t.nodes r.l.length) v).p [92, 41] = true := by
   rw [show (BRd.after ⟨r.p + 2, r.l, r.g + 1, r.en⟩ (textT t).length (t.nodes r.l.length) v).p = r.p + 2 + (textT t).length from rfl, ah_drop hd3]
   simp [List.isPrefixOf]
  rw [hah]
  simp only [Bool.not_true, Bool.or_false, Bool.false_eq_true, if_false]
  have hl : (BRd.after ⟨r.p + 2, r.l, r.g + 1, r.en⟩ (textT t).length (t.nodes r.l.length) v).l.length = r.l.length + t.size := by
   show (r.l ++ t.nodes r.l.length).length = _
   rw [List.length_append, T.nodes_len]
  rw [put_app' (show (BRd.after ⟨r.p + 2, r.l, r.g + 1, r.en⟩ (textT t).length (t.nodes r.l.length) v).l.length ≤ 120 by rw [hl]; omega), hl]
  congr 1
  unfold BRd.after
  have en : n.toNat = r.g + 1 := by omega
  simp only [T.nodes, T.root, List.append_assoc, ht, List.length_append, en]
  congr 1
  ·simp only [List.length_cons, List.length_nil]; omega
  ·congr 3
   have e1 : ((((r.to (r.p + 1)).to (r.p + 1 + 1)).g : Nat) : Int) + 1 = n := e.symm
   rw [e1]
   congr 1
 ·cases hu
theorem RR_of_IR {t : T} (h2 : t.isTwo = false) (hh : Hd2 (textT t)) (hi : IR t) : RR t := fun s f r y u ps fu hd hp hy hn hs hf hfu => by
 have hlen := len_drop hd hp
 rw [List.length_append] at hlen
 have h1 : 1 ≤ (textT t).length := by obtain ⟨c, z, e, _⟩ := hh; rw [e]; simp
 obtain ⟨fu, rfl⟩ : ∃ q, fu = q + 2 := ⟨fu - 2, by omega⟩
 rw [itemsP, ends_hd hd (hh.app y).hd]
 simp only [Bool.false_eq_true, if_false]
 rw [hi s f r y u hd hp (.inr hy) (fun _ => hy) hn hs hf]
 simp only
 rw [itemsP, show (r.after (textT t).length (t.nodes r.l.length) u).p = r.p + (textT t).length from rfl, ends_end (drop_step hd) (by omega) hy]
 simp only [if_true]
 rw [idxs_one h2, leaves_one h2]
theorem RR_two {a b : T} (h2 : a.isTwo = false) (h3 : a.isLeaf 3 = false) (hha : Hd2 (textT a)) (hhb : Hd2 (textT b)) (ia : IR a) (rb : RR b) : RR (.two 4 a b) := fun s f r y u ps fu hd hp hy hn hs hf hfu => by
 have ht : textT (.two 4 a b) = textT a ++ textT b := rfl
 have hsz : (T.two 4 a b).size = a.size + b.size + 1 := rfl
 simp only [num, Option.bind_eq_some_iff] at hn
 obtain ⟨v, n1, n2⟩ := hn
 rw [ht, List.append_assoc] at hd
 have hlen := len_drop hd hp
 rw [List.length_append] at hlen
 have h1 : 1 ≤ (textT a).length := by obtain ⟨c, z, e, _⟩ := hha; rw [e]; simp
 obtain ⟨fu, rfl⟩ : ∃ q, fu = q + 1 := ⟨fu - 1, by omega⟩
 have hm := num_mono a _ _ n1
 simp only at hm
 rw [itemsP, ends_hd hd (hha.app _).hd]
 simp only [Bool.false_eq_true, if_false]
 rw [ia s f r (textT b ++ y) v hd hp (.inl (hhb.app y).hd) (fun e => by rw [h3] at e; cases e) n1 (by omega) hf]
 simp only
 have hl : (r.after (textT a).length (a.nodes r.l.length) v).l.length = r.l.length + a.size := by
  show (r.l ++ a.nodes r.l.length).length = _
  rw [List.length_append, T.nodes_len]
 rw [rb s f (r.after (textT a).length (a.nodes r.l.length) v) y u _ fu (drop_step hd) (by show r.p + (textT a).length ≤ s.length; omega) hy n2 (by rw [hl]; omega) (by show 9 ≤ f + v.1; omega) (by show s.length < fu + (r.p + (textT a).length); omega), hl, ht]
 unfold BRd.after
 simp only [T.idxs, T.leaves, List.append_assoc, List.length_append]
 congr 2
 all_goals first | omega | (simp; done) | (congr 1; omega)
theorem WR_of_RR {t : T} (hc : Canon false true t) (hr : RR t) : WR t := fun s f r y u hd hp hy hn hs hf => by
 have hh := (text_hd t true hc).app y
 have h94 : ah s r.p [94] = false := by
  obtain ⟨c, z, e, _, h, _⟩ := hh
  rw [ah_drop hd, e]
  simp [List.isPrefixOf]
  exact fun q => h q.symm
 have R := hr s f r y u [] (s.length + 1) hd hp hy hn hs hf (by omega)
 obtain ⟨b, tl, h1, h2, h3⟩ := cats_all t false hc r.l (r.after (textT t).length (t.leaves r.l.length) u) rfl hs
 rw [rowP]
 simp only [h94, Bool.false_eq_true, if_false]
 rw [R, List.nil_append]
 simp only [h1]
 rw [h3]
 rfl
theorem WR_begin {x : Nd} (hn : isNd x = true) (hk : x.kind = 2) : WR (.leaf x) := fun s f r y u hd hp hy hu hs hf => by
 have hx : x = kindNd 2 := by
  unfold isNd at hn
  rw [if_pos (by omega), decide_eq_true_iff, hk] at hn
  exact hn
 have ht : textT (.leaf x) = [94] := by
  unfold textT
  rw [if_neg (by omega), if_pos hk]
 have h1 : r.l.length ≤ 119 := by have : (T.leaf x).size = 1 := rfl; omega
 rw [ht] at hd ⊢
 have hu' : u = (r.g, r.en) := by
  simp only [num] at hu
  rw [if_neg (by omega)] at hu
  cases hu; rfl
 have hl : r.p + 1 ≤ s.length := by
  have := len_drop hd hp
  simp at this
  omega
 have h94 : ah s r.p [94] = true := by rw [ah_drop hd]; simp [List.isPrefixOf]
 have hpp : (r.to (r.p + 1)).put (kindNd 2) = ⟨r.p + 1, r.l ++ [kindNd 2], r.g, r.en⟩ := put_app (show r.l.length ≤ 120 by omega)
 rw [rowP]
 simp only [h94, if_true, hpp]
 rw [itemsP, ends_end (drop_cons hd) hl hy]
 simp only [if_true, List.reverse_cons, List.reverse_nil, List.nil_append]
 rw [catsP, hu', hx]
 rfl
theorem WR_begin_two {x : Nd} {b : T} (hn : isNd x = true) (hk : x.kind = 2) (hc : Canon true true (.two 4 (.leaf x) b)) (rb : RR b) : WR (.two 4 (.leaf x) b) := fun s f r y u hd hp hy hu hs hf => by
 have hx : x = kindNd 2 := by
  unfold isNd at hn
  rw [if_pos (by omega), decide_eq_true_iff, hk] at hn
  exact hn
 have htx : textT (.leaf x) = [94] := by
  unfold textT
  rw [if_neg (by omega), if_pos hk]
 have ht : textT (.two 4 (.leaf x) b) = 94 :: textT b := by
  show textT (.leaf x) ++ textT b = _
  rw [htx]; rfl
 have hsz : (T.two 4 (.leaf x) b).size = 1 + b.size + 1 := rfl
 rw [ht] at hd ⊢
 simp only [num, Option.bind_eq_some_iff] at hu
 obtain ⟨v, n1, n2⟩ := hu
 rw [if_neg (by omega)] at n1
 cases n1
 have hl : r.p + 1 ≤ s.length := by
  have := len_drop hd hp
  simp at this
  omega
 have h94 : ah s r.p [94] = true := by rw [ah_drop hd]; simp [List.isPrefixOf]
 have hpp : (r.to (r.p + 1)).put (kindNd 2) = ⟨r.p + 1, r.l ++ [kindNd 2], r.g, r.en⟩ := put_app (show r.l.length ≤ 120 by omega)
 have R := rb s f ⟨r.p + 1, r.l ++ [kindNd 2], r.g, r.en⟩ y u [((r.l ++ [kindNd 2]).length : Int) - 1] (s.length + 1) (drop_cons hd) hl hy n2 (by simp; omega) hf (by show s.length < s.length + 1 + (r.p + 1); omega)
 have hl2 : (r.l ++ [kindNd 2]).length = r.l.length + 1 := by simp
 obtain ⟨b0, tl, h1, h2, h3⟩ := cats_all (.two 4 (.leaf x) b) true hc r.l (r.after (94 :: textT b).length ((T.two 4 (.leaf x) b).leaves r.l.length) u) rfl hs
 rw [rowP]
 simp only [h94, if_true, hpp]
 rw [R, hl2]
 have hi : [((r.l.length + 1 : Nat) : Int) - 1] ++ b.idxs (r.l.length + 1) = (T.two 4 (.leaf x) b).idxs r.l.length := by
  show _ = ((r.l.length : Int) + (1 : Nat) - 1) :: b.idxs (r.l.length + 1)
  rfl
 have hq : BRd.after ⟨r.p + 1, r.l ++ [kindNd 2], r.g, r.en⟩ (textT b).length (b.leaves (r.l.length + 1)) u = r.after (94 :: textT b).length ((T.two 4 (.leaf x) b).leaves r.l.length) u := by
  unfold BRd.after
  have : (T.two 4 (.leaf x) b).leaves r.l.length = [kindNd 2] ++ b.leaves (r.l.length + 1) := by
   show [x] ++ b.leaves (r.l.length + 1) = _
   rw [hx]
  simp only [this, List.length_cons, List.append_assoc]
  congr 1
  omega
 rw [hi, hq]
 simp only [h1]
 rw [h3]
 rfl
structure Rds (t : T) : Prop where
 a : Canon false false t → t.isTimes = false → AR t
 i : ∀ la, Canon false la t → t.isTwo = false → IR t
 r : Canon false true t → RR t
 w : Canon true true t → WR t
theorem reads_all : ∀ t : T, Rds t
 | .leaf x => by
  have ha : ∀ la, Canon false la (.leaf x) → x.kind ≠ 3 → AR (.leaf x) := fun la h h3 => by
   obtain ⟨hn, hf, hk⟩ := h
   rcases hk with k | k | k | k
   ·exact AR_leaf1 hn hf k
   ·exact AR_leaf8 hn k
   ·exact absurd k.2 (by decide)
   ·exact absurd k.1 h3
  have hi : ∀ la, Canon false la (.leaf x) → IR (.leaf x) := fun la h => by
   by_cases h3 : x.kind = 3
   ·exact IR_end h.1 h3
   ·exact IR_of_AR (ha la h h3) (by simp [T.isLeaf, h3])
  have hr : Canon false true (.leaf x) → RR (.leaf x) := fun h => RR_of_IR rfl (text_hd _ true h) (hi true h)
  refine ⟨fun h _ => ha false h (fun e => by rcases h.2.2 with k | k | k | k <;> first | omega | exact absurd k.2 (by decide)), fun la h _ => hi la h, hr, fun h => ?_⟩
  by_cases h2 : x.kind = 2
  ·exact WR_begin h.1 h2
  ·have hc : Canon false true (.leaf x) := ⟨h.1, h.2.1, by
    rcases h.2.2 with k | k | k | k
    ·exact .inl k
    ·exact .inr (.inl k)
    ·exact absurd k.1 h2
    ·exact .inr (.inr (.inr k))⟩
   exact WR_of_RR hc (hr hc)
 | .two k a b => by
  have A := reads_all a
  have B := reads_all b
  have hr : Canon false true (.two k a b) → RR (.two k a b) := fun h => by
   obtain ⟨_, rfl, hca, hcb⟩ := h
   have h2 : a.isTwo = false := by
    cases a with
    | two _ _ _ => exact absurd hca.1 (by decide)
    | leaf x => rfl
    | times m M t => rfl
    | group n t => rfl
   have h3 : a.isLeaf 3 = false := by
    cases a with
    | two _ _ _ => rfl
    | leaf x =>
     have := hca.2.2
     simp only [T.isLeaf, decide_eq_false_iff_not]
     intro e
     rcases this with q | q | q | q
     ·omega
     ·omega
     ·omega
     ·exact absurd q.2 (by decide)
    | times m M t => rfl
    | group n t => rfl
   exact RR_two h2 h3 (text_hd a false hca) (text_hd b true hcb) (A.i false hca h2) (B.r hcb)
  refine ⟨fun h => absurd h.1 (by decide), fun la h h2 => by (cases h2), hr, fun h => ?_⟩
  have h' := h
  obtain ⟨_, rfl, hca, hcb⟩ := h
  cases a with
  | two _ _ _ => exact absurd hca.1 (by decide)
  | leaf x =>
   by_cases h2 : x.kind = 2
   ·exact WR_begin_two hca.1 h2 h' (B.r hcb)
   ·have hc : Canon false true (.two 4 (.leaf x) b) := ⟨rfl, rfl, ⟨hca.1, hca.2.1, by
     rcases hca.2.2 with k | k | k | k
     ·exact .inl k
     ·exact .inr (.inl k)
     ·exact absurd k.1 h2
     ·exact .inr (.inr (.inr k))⟩, hcb⟩
    exact WR_of_RR hc (hr hc)
  | times m M t => exact WR_of_RR (t := .two 4 (.times m M t) b) ⟨rfl, rfl, hca, hcb⟩ (hr ⟨rfl, rfl, hca, hcb⟩)
  | group n t => exact WR_of_RR (t := .two 4 (.group n t) b) ⟨rfl, rfl, hca, hcb⟩ (hr ⟨rfl, rfl, hca, hcb⟩)
 | .times m M t => by
  have A := reads_all t
  have hi : ∀ fi la, Canon fi la (.times m M t) → IR (.times m M t) := fun fi la h => IR_times h.1 (A.a h.2.2 h.2.1)
  have hc : ∀ fi la fi' la', Canon fi la (.times m M t) → Canon fi' la' (.times m M t) := fun fi la fi' la' h => h
  refine ⟨fun h h2 => by (cases h2), fun la h _ => hi _ la h, fun h => RR_of_IR rfl (text_hd _ true h) (hi _ _ h), fun h => ?_⟩
  have h' : Canon false true (.times m M t) := hc _ _ _ _ h
  exact WR_of_RR h' (RR_of_IR rfl (text_hd _ true h') (hi _ _ h'))
 | .group n t => by
  have A := reads_all t
  have ha : ∀ fi la, Canon fi la (.group n t) → AR (.group n t) := fun fi la h => AR_group h.1 (A.w h.2)
  have hi : ∀ fi la, Canon fi la (.group n t) → IR (.group n t) := fun fi la h => IR_of_AR (ha fi la h) rfl
  have hc : ∀ fi la fi' la', Canon fi la (.group n t) → Canon fi' la' (.group n t) := fun fi la fi' la' h => h
  refine ⟨fun h _ => ha _ _ h, fun la h _ => hi _ la h, fun h => RR_of_IR rfl (text_hd _ true h) (hi _ _ h), fun h => ?_⟩
  have h' : Canon false true (.group n t) := hc _ _ _ _ h
  exact WR_of_RR h' (RR_of_IR rfl (text_hd _ true h') (hi _ _ h'))
theorem whole_text (t : T) (h : Canon true true t) (hs : t.size ≤ 120) (hn : (num t (0, fun _ => false)).isSome = true) : ∃ q, wholeP (textT t) = .ok q ∧ q.l = t.nodes 0 := by
 obtain ⟨u, hu⟩ := Option.isSome_iff_exists.1 hn
 have W := (reads_all t).w h (textT t) 9 ⟨0, [], 0, fun _ => false⟩ [] u (by simp) (Nat.zero_le _) (.inl rfl) hu (by simpa using hs) (by show 9 ≤ 9 + 0; omega)
 have hne : textT t ≠ [] := by
  cases t with
  | leaf x =>
   obtain ⟨hn, hf, hk⟩ := h
   intro e
   by_cases k2 : x.kind = 2
   ·unfold textT at e
    rw [if_neg (by omega), if_pos k2] at e
    cases e
   ·have hc : Canon false true (.leaf x) := ⟨hn, hf, by
     rcases hk with k | k | k | k
     ·exact .inl k
     ·exact .inr (.inl k)
     ·exact absurd k.1 k2
     ·exact .inr (.inr (.inr k))⟩
    obtain ⟨c, z, e2, _⟩ := text_hd _ true hc
    rw [e] at e2
    cases e2
  | two k a b =>
   obtain ⟨_, rfl, hca, hcb⟩ := h
   obtain ⟨c, z, e2, _⟩ := text_hd _ true hcb
   intro e
   have : textT a ++ textT b = [] := e
   rw [e2] at this
   simp at this
  | times m M t' =>
   obtain ⟨c, z, e2, _⟩ := text_hd (.times m M t') true h
   rw [e2]; simp
  | group n t' =>
   obtain ⟨c, z, e2, _⟩ := text_hd (.group n t') true h
   rw [e2]; simp
 have hl : (t.nodes 0).length = t.size := T.nodes_len t 0
 refine ⟨BRd.after ⟨0, [], 0, fun _ => false⟩ (textT t).length (t.nodes 0) u, ?_, by simp [BRd.after]⟩
 unfold wholeP
 simp only
 rw [if_neg hne, W]
 simp only
 have e1 : (BRd.after ⟨0, [], 0, fun _ => false⟩ (textT t).length (t.nodes ([] : List Nd).length) u).p = (textT t).length := by simp [BRd.after]
 have e2 : (BRd.after ⟨0, [], 0, fun _ => false⟩ (textT t).length (t.nodes ([] : List Nd).length) u).l.length = t.size := by simp [BRd.after, hl]
 rw [e1, e2, if_neg (by simp), if_neg (by omega)]
 rfl
end Go.Proofs.YtdjcgjkbecncaaaGreatDoor
namespace Go.Proofs.YtdjcgjkbecncaaaGreatDoor
open Go.RowKit Go.Lib
theorem isNd_byNd {F : Nat → Bool} (h : noneIn F = false) : isNd (byNd F) = true := by
 unfold noneIn at h
 rw [decide_eq_false_iff_not] at h
 unfold isNd byNd
 simp only
 rw [if_neg (by decide), if_pos (by trivial), Bool.and_eq_true, decide_eq_true_iff, decide_eq_true_iff]
 exact ⟨h, trivial⟩
theorem none_all : noneIn (fun _ => true) = false := by decide +kernel
theorem brk_some {s : List UInt8} {F : Nat → Bool} {n : Nat} (h : brkP s = some (F, n)) : noneIn F = false := by
 unfold brkP at h
 by_cases h0 : (!ah s 0 [91]) = true
 ·rw [if_pos h0] at h; cases h
 rw [if_neg h0] at h
 cases hk : partP s (sk s 1 [94]) true with
 | none => rw [hk] at h; cases h
 | some a =>
  obtain ⟨G, k⟩ := a
  rw [hk] at h
  (try simp only at h)
  cases hm : restP s (s.length + 1) k G with
  | none => rw [hm] at h; cases h
  | some b =>
   obtain ⟨F', m⟩ := b
   rw [hm] at h
   (try simp only at h)
   generalize (if ah s 1 [94] = true then (fun j => !F' j) else F') = H at h
   cases hz : noneIn H with
   | true => rw [if_pos hz] at h; cases h
   | false =>
    rw [hz] at h
    simp only [Bool.false_eq_true, if_false] at h
    cases h
    exact hz
end Go.Proofs.YtdjcgjkbecncaaaGreatDoor
