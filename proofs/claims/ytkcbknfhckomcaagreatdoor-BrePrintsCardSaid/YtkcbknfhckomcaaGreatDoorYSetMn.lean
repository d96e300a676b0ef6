/- Of no program: the nodes that are read fit. -/
import Derived.Test.YtkcbknfhckomcaaGreatDoorYBrC
import Derived.Test.YtkcbknfhckomcaaGreatDoorYRxTb
import Derived.Test.YtkcbknfhckomcaaGreatDoorYBrKf
import Derived.Test.YtkcbknfhckomcaaGreatDoorYBrIe
import Derived.Test.YtkcbknfhckomcaaGreatDoorYRxK
import Derived.Test.YtkcbknfhckomcaaGreatDoorYBrKb
import Derived.Test.YtkcbknfhckomcaaGreatDoorYRxT2
import Derived.Test.YtkcbknfhckomcaaGreatDoorYSetH
set_option linter.unusedVariables false
set_option linter.unusedSimpArgs false
set_option maxRecDepth 100000
set_option maxHeartbeats 40000000
namespace Go.Proofs.YtkcbknfhckomcaaGreatDoor
open Go.RowKit
structure FL (r : BRd) : Prop where
 n : r.l.length ≤ 121
 g : r.g ≤ 9
 f : ∀ x ∈ r.l, x.Fits
def IdxOk (i : Int) : Prop := -1 ≤ i ∧ i ≤ 121
theorem fits_of {k : Int} {w0 w1 w2 w3 : Nat} {a b m M n : Int} (hk : -1000 ≤ k ∧ k ≤ 1000) (h0 : w0 < 18446744073709551616) (h1 : w1 < 18446744073709551616) (h2 : w2 < 18446744073709551616) (h3 : w3 < 18446744073709551616) (ha : -1000 ≤ a ∧ a ≤ 1000) (hb : -1000 ≤ b ∧ b ≤ 1000) (hm : -1000 ≤ m ∧ m ≤ 1000) (hM : -1000 ≤ M ∧ M ≤ 1000) (hn : -1000 ≤ n ∧ n ≤ 1000) : (⟨k, w0, w1, w2, w3, a, b, m, M, n⟩ : Nd).Fits :=
 ⟨by show _ ≤ k ∧ k ≤ _; omega, h0, h1, h2, h3, by show _ ≤ a ∧ a ≤ _; omega, by show _ ≤ b ∧ b ≤ _; omega, by show _ ≤ m ∧ m ≤ _; omega, by show _ ≤ M ∧ M ≤ _; omega, by show _ ≤ n ∧ n ≤ _; omega⟩
theorem byNd_fits (F : Nat → Bool) : (byNd F).Fits := fits_of (by decide) (wd_lt F 0) (wd_lt F 1) (wd_lt F 2) (wd_lt F 3) (by decide) (by decide) (by decide) (by decide) (by decide)
theorem bsmall_fits {k a b m M n : Int} (hk : -1000 ≤ k ∧ k ≤ 1000) (ha : -1000 ≤ a ∧ a ≤ 1000) (hb : -1000 ≤ b ∧ b ≤ 1000) (hm : -1000 ≤ m ∧ m ≤ 1000) (hM : -1000 ≤ M ∧ M ≤ 1000) (hn : -1000 ≤ n ∧ n ≤ 1000) : (⟨k, 0, 0, 0, 0, a, b, m, M, n⟩ : Nd).Fits := fits_of hk (by decide) (by decide) (by decide) (by decide) ha hb hm hM hn
theorem FL.put {r : BRd} (h : FL r) {x : Nd} (hx : x.Fits) : FL (r.put x) := by
 refine ⟨put_le r x h.n, h.g, fun y hy => ?_⟩
 unfold BRd.put at hy
 dsimp only at hy
 split at hy
 ·rcases List.mem_append.1 hy with q | q
  ·exact h.f y q
  ·rw [List.mem_singleton.1 q]; exact hx
 ·exact h.f y hy
theorem FL.to {r : BRd} (h : FL r) (i : Nat) : FL (r.to i) := ⟨h.n, h.g, h.f⟩
theorem FL.idx {r : BRd} (h : FL r) : IdxOk ((r.l.length : Int) - 1) := by
 have := h.n
 unfold IdxOk
 omega
theorem timesP_small {s : List UInt8} {i k : Nat} {a b : Int} (h : timesP s i = some (a, b, k)) : 0 ≤ a ∧ a ≤ 255 ∧ -1 ≤ b ∧ b ≤ 255 := by
 unfold timesP at h
 split at h
 ·cases h; decide
 ·simp only at h
  have hn : 0 ≤ (numP s (sk s i [92, 123])).1 := by unfold numP; exact Int.natCast_nonneg _
  generalize numP s (sk s i [92, 123]) = u at h hn
  generalize (if ah s u.2.2 [44] then (if ah s (u.2.2 + 1) [92, 125] then ((-1 : Int), true, u.2.2 + 1) else numP s (u.2.2 + 1)) else u) = v at h
  split at h
  ·cases h
  ·rename_i q
   simp only [Bool.or_eq_true, Bool.not_eq_true', not_or, Bool.not_eq_false] at q
   have hc := q.2
   cases h
   unfold isCountP at hc
   split at hc
   ·cases hc
   ·simp only [Bool.or_eq_true, Bool.and_eq_true, decide_eq_true_iff] at hc
    omega
theorem behP_fl {s : List UInt8} {r : BRd} (h : FL r) {i : Int} {q : BRd} (e : behP s r = .ok (i, q)) : FL q ∧ IdxOk i := by
 unfold behP at e
 split at e
 ·cases e; exact ⟨h, h.idx⟩
 split at e
 ·cases e
 ·rename_i a b k hk
  have hs := timesP_small hk
  split at e
  ·cases e
  ·simp only at e
   have hi := h.idx
   unfold IdxOk at hi
   have := (h.to k).put (bsmall_fits (k := 6) (a := (r.l.length : Int) - 1) (b := 0) (m := a) (M := b) (n := 0) (by decide) (by omega) (by decide) (by omega) (by omega) (by decide))
   cases e
   exact ⟨this, this.idx⟩
def RowF (row : BRd → Except Er (Bool × BRd)) : Prop := ∀ r, FL r → ∀ b q, row r = .ok (b, q) → FL q
theorem grpP_fl {s : List UInt8} {row : BRd → Except Er (Bool × BRd)} (hr : RowF row) {r : BRd} (h : FL r) {a : Nat} {q : BRd} (e : grpP s row r a = .ok q) : FL q := by
 unfold grpP at e
 split at e
 ·cases e
 rename_i hne
 have hg := h.g
 split at e
 ·cases e
 ·rename_i any q' hq
  have F := hr { r with g := r.g + 1 } ⟨h.n, (by show r.g + 1 ≤ 9; omega), h.f⟩ _ _ hq
  split at e
  ·cases e
  ·cases e
   have hi := F.idx
   unfold IdxOk at hi
   exact FL.put (r := { q' with p := q'.p + 2, en := fun k => if k = r.g + 1 then true else q'.en k }) ⟨F.n, F.g, F.f⟩ (bsmall_fits (k := 7) (a := (q'.l.length : Int) - 1) (b := 0) (m := 0) (M := 0) (n := (r.g : Int) + 1) (by decide) (by omega) (by decide) (by decide) (by decide) (by omega))
theorem escP_fl {s : List UInt8} {row : BRd → Except Er (Bool × BRd)} (hr : RowF row) {r : BRd} (h : FL r) {a : Nat} {q : BRd} (e : escP s row r a = .ok q) : FL q := by
 unfold escP at e
 split at e
 ·cases e
 ·rename_i b hb
  have hbl := b.toNat_lt
  split at e
  ·exact grpP_fl hr (h.to _) e
  split at e
  ·split at e
   ·cases e
   ·cases e
    exact (h.to _).put (bsmall_fits (k := 8) (a := 0) (b := 0) (m := 0) (M := 0) (n := (b.toNat : Int) - 48) (by decide) (by decide) (by decide) (by decide) (by decide) (by omega))
  split at e
  ·cases e; exact (h.to _).put (byNd_fits _)
  split at e
  ·cases e; exact (h.to _).put (byNd_fits _)
  split at e
  ·cases e
  ·cases e
theorem itemP_fl {s : List UInt8} {row : BRd → Except Er (Bool × BRd)} (hr : RowF row) {r : BRd} (h : FL r) {i : Int} {q : BRd} (e : itemP s row r = .ok (i, q)) : FL q ∧ IdxOk i := by
 unfold itemP at e
 split at e
 ·cases e
 ·split at e
  ·exact behP_fl ((h.to _).put (byNd_fits _)) e
  split at e
  ·split at e
   ·cases e
   ·exact behP_fl ((h.to _).put (byNd_fits _)) e
  split at e
  ·split at e
   ·cases e
   ·rename_i q' hq
    exact behP_fl (escP_fl hr (h.to _) hq) e
  split at e
  ·simp only at e
   have := (h.to (r.p + 1)).put (x := kindNd 3) (bsmall_fits (by decide) (by decide) (by decide) (by decide) (by decide) (by decide))
   cases e
   exact ⟨this, this.idx⟩
  ·exact behP_fl ((h.to _).put (byNd_fits _)) e
theorem itemsP_fl {s : List UInt8} {row : BRd → Except Er (Bool × BRd)} (hr : RowF row) : ∀ (f : Nat) (r : BRd) (ps l : List Int) (q : BRd), FL r → (∀ i ∈ ps, IdxOk i) → itemsP s row f r ps = .ok (l, q) → FL q ∧ ∀ i ∈ l, IdxOk i
 | 0, r, ps, l, q, h, hp, e => by cases e
 | f + 1, r, ps, l, q, h, hp, e => by
  rw [itemsP] at e
  split at e
  ·cases e; exact ⟨h, hp⟩
  split at e
  ·cases e
  ·rename_i i q' hq
   have I := itemP_fl hr h hq
   exact itemsP_fl hr f _ _ _ _ I.1 (fun j hj => by
    rcases List.mem_append.1 hj with t | t
    ·exact hp j t
    ·rw [List.mem_singleton.1 t]; exact I.2) e
theorem catsP_fl : ∀ (tl : List Int) (r : BRd) (b : Int), FL r → IdxOk b → (∀ i ∈ tl, IdxOk i) → FL (catsP tl r b)
 | [], r, b, h, hb, ht => h
 | a :: tl, r, b, h, hb, ht => by
  rw [catsP]
  have ha := ht a (by simp)
  unfold IdxOk at ha hb
  have := h.put (bsmall_fits (k := 4) (a := a) (b := b) (m := 0) (M := 0) (n := 0) (by decide) (by omega) (by omega) (by decide) (by decide) (by decide))
  exact catsP_fl tl _ _ this this.idx (fun i hi => ht i (by simp [hi]))
theorem rowP_fl (s : List UInt8) : ∀ f : Nat, RowF (rowP s f)
 | 0 => fun r h b q e => by cases e
 | f + 1 => fun r h b q e => by
  rw [rowP] at e
  try simp only at e
  obtain ⟨r1, h1⟩ : ∃ r1, r1 = (if ah s r.p [94] then (r.to (r.p + 1)).put (kindNd 2) else r) := ⟨_, rfl⟩
  obtain ⟨p1, h2⟩ : ∃ p1 : List Int, p1 = (if ah s r.p [94] then [(r1.l.length : Int) - 1] else []) := ⟨_, rfl⟩
  rw [← h1] at e
  rw [← h2] at e
  have f1 : FL r1 := by
   rw [h1]
   split
   ·exact (h.to _).put (bsmall_fits (by decide) (by decide) (by decide) (by decide) (by decide) (by decide))
   ·exact h
  have f2 : ∀ i ∈ p1, IdxOk i := by
   rw [h2]
   split
   ·intro i hi
    rw [List.mem_singleton.1 hi]; exact f1.idx
   ·intro i hi; cases hi
  split at e
  ·cases e
  ·rename_i ps q' hq
   have I := itemsP_fl (rowP_fl s f) _ _ _ _ _ f1 f2 hq
   split at e
   ·cases e; exact I.1
   ·rename_i b' tl hr
    have hm : ∀ i ∈ b' :: tl, IdxOk i := fun i hi => I.2 i (by rw [← hr] at hi; simpa using hi)
    cases e
    exact catsP_fl tl _ _ I.1 (hm _ (by simp)) (fun i hi => hm i (by simp [hi]))
theorem wholeP_fl (s : List UInt8) (q : BRd) (e : wholeP s = .ok q) : FL q := by
 unfold wholeP at e
 simp only at e
 have h0 : FL ⟨0, [], 0, fun _ => false⟩ := ⟨by simp, by simp, fun x hx => by cases hx⟩
 split at e
 ·cases e
  exact h0.put (bsmall_fits (by decide) (by decide) (by decide) (by decide) (by decide) (by decide))
 split at e
 ·cases e
 ·rename_i b q' hq
  have := rowP_fl s 10 _ h0 _ _ hq
  split at e
  ·cases e
  split at e
  ·cases e
  ·cases e; exact this
def parsedL (s : List UInt8) : List Nd := match wholeP s with
 | .ok q => q.l
 | .error _ => []
theorem parsedL_fits (s : List UInt8) : ∀ x ∈ parsedL s, x.Fits := by
 unfold parsedL
 intro x hx
 split at hx
 ·rename_i q hq
  exact (wholeP_fl s q hq).f x hx
 ·cases hx
end Go.Proofs.YtkcbknfhckomcaaGreatDoor
namespace Go.Proofs.YtkcbknfhckomcaaGreatDoor
open Go.RowKit
structure Fit5 (w : World) : Prop where
 f : Fit3 w
 m : MaxL w
 s : SynV w
theorem Fit5.below {w w' : World} (h : Fit5 w) (hB : Below w.heap.size w w') : Fit5 w' := ⟨h.f.below hB, h.m.below hB, h.s.same (hB.block _ h.s.lt)⟩
theorem bnodes_of_own {w : World} {B n : Nat} {v : Value} {xs : List Nd} (h : w.ownsRow B 40 10 v n (flat xs)) (hn : xs.length = n) (hs : n ≤ 1000) (hf : ∀ (i : Nat) (x : Nd), xs[i]? = some x → x.Fits) :
  ∃ p cap, v = .slice p n cap ∧ Nodes w p n xs ∧ (1 ≤ n → ∃ g, p = some ⟨g, 0, none⟩ ∧ B ≤ g ∧ NodesAt w g 0 xs) := by
 rcases h.2 with ⟨rfl, rfl⟩ | ⟨g, cap, cur, rfl, hg, hb, _, _, hc, ht⟩
 ·exact ⟨none, 0, rfl, ⟨hn, by omega, fun h => absurd h (by omega), fun h => absurd h (by omega), hf⟩, fun h => absurd h (by omega)⟩
 ·have hN : NodesAt w g 0 xs := ⟨(Array.getElem?_eq_some_iff.1 hb).1, fun i x hx j u hj => by
   have hi : i < xs.length := (List.getElem?_eq_some_iff.1 hx).1
   have hj10 : j < 10 := by
    have := (Array.getElem?_eq_some_iff.1 hj).1
    simpa [Nd.cells] using this
   rw [cell_of _ _ _ _ hb, Nat.zero_add]
   have e1 := flat_get xs i j x hx hj10
   rw [hj] at e1
   have : (cur.toList.take (n * 10))[i * 10 + j]? = (flat xs)[i * 10 + j]? := by rw [ht]
   rw [List.getElem?_take_of_lt (by omega), e1] at this
   rw [← this]
   simp⟩
  refine ⟨some ⟨g, 0, none⟩, cap, rfl, ⟨hn, by omega, fun _ => ⟨g, 0, rfl⟩, fun _ b o e => ?_, hf⟩, fun _ => ⟨g, rfl, hg, hN⟩⟩
  simp only [Option.some.injEq, Addr.mk.injEq] at e
  obtain ⟨rfl, rfl, _⟩ := e
  exact hN
structure PNodes (w : World) (s : List UInt8) (e : Ending) (w' : World) (p : Option Addr) (n cap : Nat) (a z : Int) : Prop where
 e : e = .returned (.tuple #[.slice p n cap, .int .i64 a, .int .i64 z])
 x : Nodes w' p n (parsedL s)
 n : n ≤ 121
 ok : ∀ q, wholeP s = .ok q → a = 0 ∧ z = 0
 er : ∀ u v, wholeP s = .error (u, v) → z = u ∧ a = v
theorem pout_nodes {w w' : World} {s : List UInt8} {e : Ending} (h : POut w s e w') : ∃ p n cap a z, PNodes w s e w' p n cap a z := by
 unfold POut at h
 split at h
 ·rename_i q hq
  obtain ⟨v, rfl, ho, hb⟩ := h
  have hp : parsedL s = q.l := by unfold parsedL; rw [hq]
  have hn := (wholeP_fl s q hq).n
  obtain ⟨p, cap, rfl, hN, _⟩ := bnodes_of_own ho rfl (by omega) (fun i x hx => (wholeP_fl s q hq).f x (List.mem_of_getElem? hx))
  refine ⟨p, q.l.length, cap, 0, 0, rfl, by rw [hp]; exact hN, hn, fun q' h => ⟨rfl, rfl⟩, fun u v h => by (rw [hq] at h; cases h)⟩
 ·rename_i z a hq
  subst h
  have hp : parsedL s = [] := by unfold parsedL; rw [hq]
  refine ⟨none, 0, 0, _, _, rfl, ?_, by omega, fun q h => by (rw [hq] at h; cases h), fun u v h => by (rw [hq] at h; cases h; exact ⟨rfl, rfl⟩)⟩
  rw [hp]
  exact ⟨rfl, by omega, fun h => by omega, fun h => by omega, fun i x hx => by simp at hx⟩
theorem print_out (p : Option Addr) (n cap : Nat) (xs : List Nd) (hp : ¬ ∃ t, IsPat xs t) (w : World) (h : Nodes w p n xs) :
  Calls Tryz.prog 5 #[.slice p n cap] w fun e w' => e = .returned (.tuple #[.string ⟨#[]⟩, .int .i64 1]) ∧ Below w.heap.size w w' := by
 have HM := Lib.hid (may_n p n cap xs false ⟨fun h => absurd h (by decide), fun h => absurd h hp⟩ w h)
 clear hp
 go_enter Tryz.func5, Tryz.ntmps5
 go_wp2_with fail
 refine HM.out.mono ?_
 rintro e w1 ⟨rfl, hB1⟩
 go_wp2
 refine bodyPost_ret (v := .tuple #[.string ⟨#[]⟩, .int .i64 1]) (by simp [results, Tryz.results5, go_sem]) rfl ?_
 exact ⟨rfl, hB1⟩
def printsP (xs : List Nd) (t : T) : Bool := decide (parsedL (textT t) = xs)
theorem print_in (b o n cap : Nat) (xs : List Nd) (t : T) (hp : IsPat xs t) (hlen : xs.length = n) (hfit : ∀ (i : Nat) (x : Nd), xs[i]? = some x → x.Fits) (w : World) (hw : Fit5 w) (hx : NodesAt w b o xs) :
  Calls Tryz.prog 5 #[.slice (some ⟨b, o, none⟩) n cap] w fun e w' => e = .returned (.tuple #[.string ⟨(if printsP xs t then textT t else []).toArray⟩, .int .i64 (if printsP xs t then 0 else 1)]) ∧ Below w.heap.size w w' := by
 have hsz := hp.2.2.1
 have hn := hp.2.2.2.1
 have tp := t.size_pos
 obtain ⟨k, rfl⟩ : ∃ k, n = k + 1 := ⟨n - 1, by omega⟩
 have hnodes : ∀ w', NodesAt w' b o xs → Nodes w' (some ⟨b, o, none⟩) (k + 1) xs := fun w' h => ⟨hlen, by omega, fun _ => ⟨b, o, rfl⟩, fun _ b' o' e => by
  simp only [Option.some.injEq, Addr.mk.injEq] at e
  obtain ⟨rfl, rfl, _⟩ := e
  exact h, hfit⟩
 have HM := Lib.hid (may_n (some ⟨b, o, none⟩) (k + 1) cap xs true ⟨fun _ => ⟨t, hp⟩, fun _ => rfl⟩ w (hnodes w hx))
 have HT := Lib.hid fun w f x => textof_all b o (k + 1) cap xs hlen (by omega) hfit t hp.1 0 k w hp.2.1 (by omega) (by omega) f x
 have htl := textT_len t hp.1
 have HPS := Lib.hid fun w m y => bparse_c (textT t) (by omega) w m y
 have HE := Lib.hid fun p n c w (hn : n ≤ 1000) h h' => equal_c p (some ⟨b, o, none⟩) n (k + 1) c cap (parsedL (textT t)) xs hn w h h'
 have HF := Lib.hid hw
 have HX := Lib.hid hx
 have HN := Lib.hid hnodes
 have hpp : printsP xs t = decide (parsedL (textT t) = xs) := rfl
 rw [← hpp] at HE
 generalize printsP xs t = r at *
 generalize htt : textT t = s at *
 clear hpp htt hp hsz hfit hnodes hx hw
 go_enter Tryz.func5, Tryz.ntmps5
 go_wp2_with fail
 refine HM.out.mono ?_
 rintro e w1 ⟨rfl, hB1⟩
 have hx1 := HX.out.below hB1 HX.out.lt
 have hf1 := HF.out.below hB1
 go_wp2_with fail
 refine (HT.out _ hf1.f hx1).mono ?_
 rintro e w2 ⟨rfl, hB2⟩
 have hx2 := hx1.below hB2 hx1.lt
 have hf2 := hf1.below hB2
 have hb2 := hB1.trans (hB2.mono hB1.size)
 clear hx1 hf1 hB1 hB2 HM HT
 go_wp2_with fail
 refine (HPS.out _ hf2.m hf2.s).mono ?_
 rintro e w3 ⟨hout, hB3⟩
 obtain ⟨p, n, c, a, z, hpn⟩ := pout_nodes hout
 obtain ⟨rfl, hxn, hn121, _, _⟩ := hpn
 have hx3 := hx2.below hB3 hx2.lt
 have hb3 := hb2.trans (hB3.mono hb2.size)
 have HE3 := Lib.hid (HE.out p n c w3 (by omega) hxn (HN.out _ hx3))
 clear hout hB3 hx2 hf2 hb2 HPS HE hxn HN HX HF
 go_wp2_with fail
 refine HE3.out.mono ?_
 rintro e w4 ⟨rfl, hB4⟩
 have hb4 := hb3.trans (hB4.mono hb3.size)
 clear HE3 hB4 hb3
 cases r with
 | true =>
  go_wp2
  refine bodyPost_ret (v := .tuple #[.string ⟨s.toArray⟩, .int .i64 0]) (by simp [results, Tryz.results5, go_sem]) rfl ?_
  exact ⟨rfl, hb4⟩
 | false =>
  go_wp2
  refine bodyPost_ret (v := .tuple #[.string ⟨#[]⟩, .int .i64 1]) (by simp [results, Tryz.results5, go_sem]) rfl ?_
  exact ⟨rfl, hb4⟩
end Go.Proofs.YtkcbknfhckomcaaGreatDoor
namespace Go.Proofs.YtkcbknfhckomcaaGreatDoor
open Go.RowKit Go.Lib
def sB : List UInt8 := [94, 97, 42, 92, 40, 98, 92, 41, 92, 49, 91, 120, 45, 122, 93, 36]
def sC : List UInt8 := [97, 92, 40, 98]
def bA : Nd := ⟨1, 0, 8589934592, 0, 0, 0, 0, 0, 0, 0⟩
def bB : Nd := ⟨1, 0, 17179869184, 0, 0, 0, 0, 0, 0, 0⟩
def bX : Nd := ⟨1, 0, 504403158265495552, 0, 0, 0, 0, 0, 0, 0⟩
def bR : Nd := ⟨8, 0, 0, 0, 0, 0, 0, 0, 0, 1⟩
def tB : T := .two 4 (.leaf (kindNd 2)) (.two 4 (.times 0 (-1) (.leaf bA)) (.two 4 (.group 1 (.leaf bB)) (.two 4 (.leaf bR) (.two 4 (.leaf bX) (.leaf (kindNd 3))))))
def xB : List Nd := [kindNd 2, bA, ⟨6, 0, 0, 0, 0, 1, 0, 0, -1, 0⟩, bB, ⟨7, 0, 0, 0, 0, 3, 0, 0, 0, 1⟩, bR, bX, kindNd 3, ⟨4, 0, 0, 0, 0, 6, 7, 0, 0, 0⟩, ⟨4, 0, 0, 0, 0, 5, 8, 0, 0, 0⟩, ⟨4, 0, 0, 0, 0, 4, 9, 0, 0, 0⟩, ⟨4, 0, 0, 0, 0, 2, 10, 0, 0, 0⟩, ⟨4, 0, 0, 0, 0, 0, 11, 0, 0, 0⟩]
theorem parsedB : parsedL sB = xB := by decide +kernel
def wholeE (s : List UInt8) : Option Er := match wholeP s with
 | .error e => some e
 | .ok _ => none
theorem wholeC : wholeP sC = .error (41, 1) := by
 have h : wholeE sC = some (41, 1) := by decide +kernel
 unfold wholeE at h
 split at h
 ·rename_i e he
  cases h; exact he
 ·cases h
theorem wholeB : ∃ q, wholeP sB = .ok q := by
 cases h : wholeP sB with
 | ok q => exact ⟨q, rfl⟩
 | error e =>
  have := parsedB
  unfold parsedL at this
  rw [h] at this
  cases this
theorem mem_cases {P : Nd → Prop} {l : List Nd} (h : ∀ x ∈ l, P x) (i : Nat) (x : Nd) (hx : l[i]? = some x) : P x := h x (List.mem_of_getElem? hx)
theorem fitsB : ∀ (i : Nat) (x : Nd), xB[i]? = some x → x.Fits := by
 rw [← parsedB]
 exact mem_cases (parsedL_fits sB)
theorem isNdB : ∀ x ∈ xB, isNd x = true := by decide +kernel
instance (xs : List Nd) (x : Nd) : Decidable (pOk xs x) := by unfold pOk; infer_instance
theorem pOkB : ∀ x ∈ xB, pOk xB x := by decide +kernel
theorem patB : IsPat xB tB := by
 refine ⟨?_, ?_, rfl, by decide, mem_cases isNdB, mem_cases pOkB, by decide +kernel⟩
 ·exact ⟨.inl rfl, ⟨by decide +kernel, .inr (.inr (.inl rfl))⟩, .inl rfl, ⟨by decide +kernel, ⟨by decide +kernel, .inr (.inl rfl)⟩⟩, .inl rfl, ⟨by decide +kernel, by decide +kernel, .inr (.inl rfl)⟩, .inl rfl, ⟨by decide +kernel, .inr (.inr (.inr (.inr rfl)))⟩, .inl rfl, ⟨by decide +kernel, .inr (.inl rfl)⟩, ⟨by decide +kernel, .inr (.inr (.inr (.inl rfl)))⟩⟩
 ·exact ⟨rfl, ⟨⟨rfl, rfl⟩, ⟨⟨rfl, rfl⟩, ⟨rfl, ⟨rfl, rfl, rfl⟩, rfl⟩, rfl⟩, rfl⟩, rfl⟩
theorem showA : showP bA.set = [97] := by decide +kernel
theorem showB : showP bB.set = [98] := by decide +kernel
theorem showX : showP bX.set = [91, 120, 45, 122, 93] := by decide +kernel
theorem itoa_1 : itoa 1 = [49] := by
 unfold itoa
 rw [if_neg (by omega)]
 exact decDigits_one (by decide)
theorem textB : textT tB = sB := by
 have ka : textT (.leaf bA) = [97] := by
  unfold textT
  rw [if_pos (by rfl), showA]
 have kb : textT (.leaf bB) = [98] := by
  unfold textT
  rw [if_pos (by rfl), showB]
 have kx : textT (.leaf bX) = [91, 120, 45, 122, 93] := by
  unfold textT
  rw [if_pos (by rfl), showX]
 have kr : textT (.leaf bR) = [92, 49] := by
  unfold textT
  rw [if_neg (by decide), if_neg (by decide), if_neg (by decide), if_pos (by rfl)]
  show [92] ++ itoa 1 = _
  rw [itoa_1]; rfl
 have k2 : textT (.leaf (kindNd 2)) = [94] := rfl
 have k3 : textT (.leaf (kindNd 3)) = [36] := rfl
 have kt : timesT 0 (-1) = [42] := rfl
 show (textT (.leaf (kindNd 2))) ++ ((textT (.leaf bA) ++ timesT 0 (-1)) ++ (([92, 40] ++ textT (.leaf bB) ++ [92, 41]) ++ (textT (.leaf bR) ++ (textT (.leaf bX) ++ textT (.leaf (kindNd 3)))))) = sB
 rw [ka, kb, kx, kr, k2, k3, kt]
 rfl
theorem printsB : printsP xB tB = true := by
 unfold printsP
 rw [textB, parsedB]
 decide
theorem gcntB : gcnt xB 13 = 1 := by decide +kernel
theorem anyRefB : anyRef xB 13 := ⟨5, bR, by decide, rfl, rfl⟩
end Go.Proofs.YtkcbknfhckomcaaGreatDoor
namespace Go.Proofs.YtkcbknfhckomcaaGreatDoor
open Go.RowKit Go.Lib
theorem parseB (w : World) (hw : Fit5 w) :
  Calls Tryz.prog 8 #[.string ⟨#[94, 97, 42, 92, 40, 98, 92, 41, 92, 49, 91, 120, 45, 122, 93, 36]⟩] w fun e w' => (∃ b o cap, e = .returned (.tuple #[.slice (some ⟨b, o, none⟩) 13 cap, .int .i64 0, .int .i64 0]) ∧ NodesAt w' b o xB) ∧ Below w.heap.size w w' := by
 refine (bparse_c sB (by decide) w hw.m hw.s).mono ?_
 rintro e w' ⟨hout, hB⟩
 refine ⟨?_, hB⟩
 obtain ⟨p, n, cap, a, z, he, hx, hn, hok, her⟩ := pout_nodes hout
 obtain ⟨q, hq⟩ := wholeB
 obtain ⟨rfl, rfl⟩ := hok q hq
 rw [parsedB] at hx
 obtain rfl : 13 = n := hx.len
 obtain ⟨b, o, rfl⟩ := hx.ptr (by omega)
 exact ⟨b, o, cap, he, hx.at' (by omega) b o rfl⟩
theorem parseC (w : World) (hw : Fit5 w) :
  Calls Tryz.prog 8 #[.string ⟨#[97, 92, 40, 98]⟩] w fun e w' => e = .returned (.tuple #[.slice none 0 0, .int .i64 1, .int .i64 41]) ∧ Below w.heap.size w w' := by
 refine (bparse_c sC (by decide) w hw.m hw.s).mono ?_
 rintro e w' ⟨hout, hB⟩
 unfold POut at hout
 rw [wholeC] at hout
 exact ⟨hout, hB⟩
theorem printB (b o cap : Nat) (w : World) (hw : Fit5 w) (hx : NodesAt w b o xB) :
  Calls Tryz.prog 5 #[.slice (some ⟨b, o, none⟩) 13 cap] w fun e w' => e = .returned (.tuple #[.string ⟨#[94, 97, 42, 92, 40, 98, 92, 41, 92, 49, 91, 120, 45, 122, 93, 36]⟩, .int .i64 0]) ∧ Below w.heap.size w w' := by
 have h := print_in b o 13 cap xB tB patB rfl fitsB w hw hx
 rw [printsB, if_pos rfl, if_pos rfl, textB] at h
 exact h
theorem shown4_c (w : World) (hw : Fit5 w) : Calls Tryz.prog 4 #[] w fun e w' => e = .returned (.bool true) ∧ Below w.heap.size w w' := by
 have HP := Lib.hid (parseB w hw)
 have HW := Lib.hid hw
 clear hw
 go_enter Tryz.func4, Tryz.ntmps4
 go_wp2_with fail
 refine HP.out.mono ?_
 rintro e w1 ⟨⟨b, o, cap, rfl, hx1⟩, hB1⟩
 have hf1 := HW.out.below hB1
 have HPR := Lib.hid (printB b o cap w1 hf1 hx1)
 clear HP HW
 go_wp2_with fail
 refine HPR.out.mono ?_
 rintro e w2 ⟨rfl, hB2⟩
 have hf2 := hf1.below hB2
 have hx2 := hx1.below hB2 hx1.lt
 have b2 := hB1.trans (hB2.mono hB1.size)
 have HPC := Lib.hid (parseC w2 hf2)
 clear HPR hf1 hx1 hB1 hB2
 go_wp2_with fail
 refine HPC.out.mono ?_
 rintro e w3 ⟨rfl, hB3⟩
 have hf3 := hf2.below hB3
 have hx3 := hx2.below hB3 hx2.lt
 have b3 := b2.trans (hB3.mono b2.size)
 have HG := Lib.hid fun w hx => groups_in b o 13 cap xB rfl (by omega) (by omega) fitsB ⟨tB, patB⟩ w hx
 rw [gcntB] at HG
 have HR := Lib.hid fun w hx => refs_in b o 13 cap xB rfl (by omega) (by omega) fitsB ⟨tB, patB⟩ true ⟨fun _ => anyRefB, fun _ => rfl⟩ w hx
 clear HPC hf2 hx2 b2 hB3
 go_wp2_with fail
 refine (HG.out _ hx3).mono ?_
 rintro e w4 ⟨rfl, hB4⟩
 have hx4 := hx3.below hB4 hx3.lt
 have b4 := b3.trans (hB4.mono b3.size)
 go_wp2_with fail
 refine (HR.out _ hx4).mono ?_
 rintro e w5 ⟨rfl, hB5⟩
 have b5 := b4.trans (hB5.mono b4.size)
 clear hB4 hB5 HG HR
 go_wp2
 go_ret
 exact ⟨rfl, b5⟩
end Go.Proofs.YtkcbknfhckomcaaGreatDoor
namespace Go.Proofs.YtkcbknfhckomcaaGreatDoor
open Go.RowKit Go.Lib
theorem ah_drop {s : List UInt8} {i : Nat} {x : List UInt8} (h : s.drop i = x) (l : List UInt8) : ah s i l = l.isPrefixOf x := by unfold ah; rw [h]
end Go.Proofs.YtkcbknfhckomcaaGreatDoor
namespace Go.Proofs.YtkcbknfhckomcaaGreatDoor
open Go.RowKit Go.Lib
theorem cnt_zero {F : Nat → Bool} : ∀ {n : Nat}, cnt F n = 0 → ∀ i, i < n → F i = false
 | 0, _, i, hi => by omega
 | n + 1, h, i, hi => by
  have e := cnt_add F n 1
  rw [h] at e
  by_cases hin : i = n
  ·subst hin
   have : cnt (fun j => F (i + j)) 1 = 0 := by omega
   simpa [cnt] using this
  ·exact cnt_zero (n := n) (by omega) i (by omega)
theorem wdNone (k : Nat) : wd (fun _ => false) k = 0 := by
 refine (wd_ext (f := fun _ => false) (k := k) (x := 0) (by omega) (fun i hi => by simp)).symm
inductive Tk where
 | one (c : UInt8)
 | nl
 | rng (a b : UInt8)
def Tk.set : Tk → Nat → Bool
 | one c => rg c.toNat c.toNat
 | nl => rg 10 10
 | rng a b => rg a.toNat b.toNat
def FC (y : List UInt8) : Prop := ∀ c z, y = c :: z → c = 45 → ∃ v, z = 93 :: v
def Tk.Ok (first : Bool) : Tk → List UInt8 → Prop
 | one c, y => FC y ∧ (c = 93 → first = true) ∧ (c = 45 → first = true ∨ ∃ v, y = 93 :: v) ∧ (c = 91 → ∀ d z, y = d :: z → d ≠ 46 ∧ d ≠ 58 ∧ d ≠ 61) ∧ (c = 92 → ∀ d z, y = d :: z → d ≠ 110)
 | nl, y => FC y
 | rng a b, y => (a ≠ 91 ∧ a ≠ 92 ∧ a ≠ 45 ∧ a ≠ 93) ∧ (b ≠ 91 ∧ b ≠ 92 ∧ b ≠ 45 ∧ b ≠ 93) ∧ a.toNat ≤ b.toNat
theorem FC.tail {s : List UInt8} {k : Nat} {y : List UInt8} (h : FC y) (hd : s.drop k = y) : (ah s k [45, 93] || !ah s k [45]) = true := by
 rw [ah_drop hd, ah_drop hd]
 cases y with
 | nil => rfl
 | cons c z =>
  by_cases e : c = 45
  ·obtain ⟨v, rfl⟩ := h c z rfl e
   subst e
   simp [List.isPrefixOf]
  ·simp [List.isPrefixOf]
   exact .inr (fun q => e q.symm)
end Go.Proofs.YtkcbknfhckomcaaGreatDoor
namespace Go.Proofs.YtkcbknfhckomcaaGreatDoor
open Go.RowKit Go.Lib
/-! The bytes of a set rise. -/
def inL (l : List UInt8) (j : Nat) : Bool := l.any fun x => x.toNat == j
theorem inL_bytes (F : Nat → Bool) (j : Nat) (hj : j < 256) : inL (bytesL F) j = F j := by
 have h := inS_bytesOf F j hj
 unfold inS at h
 have e : (bytesOf F).size = (bytesOf F).data.toList.length := by simp
 rw [e, List.take_length] at h
 exact h
/-! Runs. -/
def runToks : Nat → List UInt8 → List Tk
 | 0, _ => []
 | _ + 1, [] => []
 | f + 1, c :: l => (if runLen (c :: l) < 3 then ((c :: l).take (runLen (c :: l))).map Tk.one else (((c :: l).drop (runLen (c :: l) - 1)).take 1).map (Tk.rng c)) ++ runToks f ((c :: l).drop (runLen (c :: l)))
end Go.Proofs.YtkcbknfhckomcaaGreatDoor
namespace Go.Proofs.YtkcbknfhckomcaaGreatDoor
open Go.RowKit Go.Lib
def opt (b : Bool) (t : Tk) : List Tk := if b then [t] else []
def E1 (F : Nat → Bool) : List Tk := opt (F 45) (.one 45)
def E2 (F : Nat → Bool) : List Tk := opt (F 94) (.one 94) ++ E1 F
def E3 (F : Nat → Bool) : List Tk := opt (F 92) (.one 92) ++ E2 F
def E4 (F : Nat → Bool) : List Tk := opt (F 91) (.one 91) ++ E3 F
def E5 (F : Nat → Bool) : List Tk := opt (F 10) .nl ++ E4 F
def E6 (F : Nat → Bool) : List Tk := runToks 257 (bytesL (leftF F)) ++ E5 F
def E7 (F : Nat → Bool) : List Tk := opt (F 93) (.one 93) ++ E6 F
theorem hat_iff {F : Nat → Bool} (h : ∀ i, i < 256 → F i = inS ⟨#[94, 45]⟩ 2 i) : hatDash F = true := by
 unfold hatDash
 rw [decide_eq_true_iff]
 exact ⟨wd_congr (by omega) h, wd_congr (by omega) h, wd_congr (by omega) h, wd_congr (by omega) h⟩
theorem hat_of {F : Nat → Bool} (h : hatDash F = true) : ∀ i, i < 256 → F i = inS ⟨#[94, 45]⟩ 2 i := by
 unfold hatDash at h
 rw [decide_eq_true_iff] at h
 refine wd_inj (fun k hk => ?_)
 rcases (by omega : k = 0 ∨ k = 1 ∨ k = 2 ∨ k = 3) with rfl | rfl | rfl | rfl
 ·exact h.1
 ·exact h.2.1
 ·exact h.2.2.1
 ·exact h.2.2.2
theorem cnt_none : cnt (fun _ => false) 256 = 0 := by decide +kernel
theorem none_no {F G : Nat → Bool} (hF : cnt F 256 ≠ 0) (h : ∀ i, i < 256 → G i = F i) : noneIn G = false := by
 unfold noneIn
 rw [decide_eq_false_iff_not]
 rintro ⟨a, b, c, d⟩
 apply hF
 rw [← cnt_none]
 refine cnt_congr (fun i hi => ?_)
 rw [← h i hi]
 refine wd_inj (g := fun _ => false) (fun k hk => ?_) i hi
 rw [wdNone]
 rcases (by omega : k = 0 ∨ k = 1 ∨ k = 2 ∨ k = 3) with rfl | rfl | rfl | rfl
 ·exact a
 ·exact b
 ·exact c
 ·exact d
end Go.Proofs.YtkcbknfhckomcaaGreatDoor
namespace Go.Proofs.YtkcbknfhckomcaaGreatDoor
open Go.RowKit Go.Lib
theorem rba_le {s : List UInt8} {i : Nat} {f e : Bool} (h : (rba s i f e).2.1 ≠ 0) : i + (rba s i f e).2.1 ≤ s.length := by
 unfold rba at h ⊢
 cases h0 : s[i]? with
 | none => rw [h0] at h; exact absurd rfl h
 | some c =>
  rw [h0] at h
  have hi := (List.getElem?_eq_some_iff.1 h0).1
  simp only at h ⊢
  split
  ·rename_i q
   rw [if_pos q] at h
   split
   ·rename_i q2
    have := (List.getElem?_eq_some_iff.1 q2.2.2).1
    show i + 5 ≤ s.length
    omega
   ·rename_i q2
    rw [if_neg q2] at h
    exact absurd rfl h
  ·rename_i q
   rw [if_neg q] at h
   split
   ·rename_i q2
    have q3 : s[i + 1]? = some 110 := by rw [← nx_some (by decide)]; exact q2.2
    have := (List.getElem?_eq_some_iff.1 q3).1
    show i + 2 ≤ s.length
    omega
   ·rename_i q2
    rw [if_neg q2] at h
    split
    ·rename_i q3; rw [if_pos q3] at h; exact absurd rfl h
    ·rename_i q3
     rw [if_neg q3] at h
     split
     ·rename_i q4; rw [if_pos q4] at h; exact absurd rfl h
     ·show i + 1 ≤ s.length; omega
theorem partR_le {s : List UInt8} {i : Nat} {first : Bool} {p : (Nat → Bool) × Nat} (h : partR s i first = some p) : i < p.2 ∧ p.2 ≤ s.length := by
 unfold partR at h
 split at h
 ·rename_i q
  rcases ah_le q with q | q
  ·have := clasP_le h q
   exact ⟨by omega, this.2⟩
  ·cases q
 ·simp only at h
  split at h
  ·cases h
  rename_i hn
  have h1 := rba_le hn
  split at h
  ·split at h
   ·cases h
   ·rename_i hx
    have hxn : (rba s (i + (rba s i first false).2.1 + 1) false true).2.1 ≠ 0 := fun e => hx (.inl e)
    have h2 := rba_le hxn
    cases h
    exact ⟨by show i < i + _ + 1 + _; omega, h2⟩
  ·cases h
   exact ⟨by show i < i + _; omega, h1⟩
theorem occ_ah (s : List UInt8) (i j : Nat) (p : List UInt8) : Lib.occAt (s.drop i) p j = ah s (i + j) p := by
 unfold Lib.occAt ah
 rw [List.drop_drop]
theorem clasP_some {s : List UInt8} {i k : Nat} (hik : i ≤ k) (hk : ah s k [58, 93] = true) (hn : ∀ j, i ≤ j → j < k → ah s j [58, 93] = false) :
  clasP s i = if (clsV ((s.drop i).take (k - i))).2 then some ((clsV ((s.drop i).take (k - i))).1, k + 2) else none := by
 have hr := ah_le hk
 have hkl : k + 2 ≤ s.length := by
  rcases hr with h | h
  ·exact h
  ·cases h
 have hx : Lib.index (s.drop i) [58, 93] = ((k - i : Nat) : Int) := by
  refine Lib.index_first (by rw [List.length_drop]; omega) ?_ (fun j hj => ?_)
  ·rw [occ_ah, show i + (k - i) = k by omega]; exact hk
  ·rw [occ_ah]; exact hn _ (by omega) (by omega)
 have hc : Lib.cut (s.drop i) [58, 93] = ((s.drop i).take (k - i), (s.drop i).drop (k - i + 2), true) := by
  unfold Lib.cut
  rw [if_pos (by rw [hx]; omega), hx]
  rfl
 unfold clasP
 rw [hc]
 simp only [Bool.not_true, Bool.or_false]
 have hl : ((s.drop i).take (k - i)).length = k - i := by rw [List.length_take, List.length_drop]; omega
 rw [hl, show i + (k - i + 2) = k + 2 by omega]
 cases (clsV ((s.drop i).take (k - i))).2 <;> rfl
theorem clasP_none {s : List UInt8} {i : Nat} (hn : ∀ j, i ≤ j → j + 1 < s.length → ah s j [58, 93] = false) : clasP s i = none := by
 have hx : Lib.index (s.drop i) [58, 93] < 0 := by
  rcases Lib.index_spec (s.drop i) [58, 93] with ⟨h, _⟩ | ⟨j, h1, h2, h3, h4⟩
  ·omega
  ·rw [occ_ah] at h3
   rcases ah_le h3 with q | q
   ·simp only [List.length_cons, List.length_nil] at q
    rw [hn (i + j) (by omega) (by omega)] at h3
    cases h3
   ·cases q
 have hc : (Lib.cut (s.drop i) [58, 93]).2.2 = false := by
  unfold Lib.cut
  rw [if_neg (by omega)]
 unfold clasP
 simp only
 rw [hc]
 simp
structure BkAt (w : World) (s : List UInt8) (TOT : Option ((Nat → Bool) × Nat)) (i : Nat) (F : Nat → Bool) (first : Bool) (wr : World) : Prop where
 il : i ≤ s.length
 eq : ∃ fu, s.length < fu + i ∧ restF s fu i F first = TOT
 r0 : Row wr w.heap.size (fun _ => false)
 r1 : Row wr (w.heap.size + 1) (fun _ => false)
 r2 : Row wr (w.heap.size + 1 + 1) F
 bel : Below w.heap.size w wr
section
variable {w : World} {s : List UInt8} {TOT : Option ((Nat → Bool) × Nat)} {i : Nat} {F : Nat → Bool} {first : Bool} {wr : World}
theorem BkAt.below {w' : World} (h : BkAt w s TOT i F first wr) (hB : Below wr.heap.size wr w') : BkAt w s TOT i F first w' :=
 ⟨h.il, h.eq, h.r0.below hB h.r0.lt, h.r1.below hB h.r1.lt, h.r2.below hB h.r2.lt, h.bel.trans (hB.mono h.bel.size)⟩
theorem BkAt.fin (h : BkAt w s TOT i F first wr) (hd : (ah s i [93] && !first) = true) : TOT = some (F, i + 1) := by
 obtain ⟨fu, h1, h2⟩ := h.eq
 have := h.il
 cases fu with
 | zero => omega
 | succ f => rw [restF, if_pos hd] at h2; exact h2.symm
theorem BkAt.no (h : BkAt w s TOT i F first wr) (hd : (ah s i [93] && !first) = false) (hp : partR s i first = none) : TOT = none := by
 obtain ⟨fu, h1, h2⟩ := h.eq
 have := h.il
 cases fu with
 | zero => omega
 | succ f => rw [restF, if_neg (by rw [hd]; decide), hp] at h2; exact h2.symm
theorem BkAt.step (h : BkAt w s TOT i F first wr) (hd : (ah s i [93] && !first) = false) {G : Nat → Bool} {k : Nat} (hp : partR s i first = some (G, k)) : k ≤ s.length ∧ i < k ∧ ∃ fu, s.length < fu + k ∧ restF s fu k (fun j => F j || G j) false = TOT := by
 obtain ⟨fu, h1, h2⟩ := h.eq
 have := h.il
 have hl := partR_le hp
 cases fu with
 | zero => omega
 | succ f => rw [restF, if_neg (by rw [hd]; decide), hp] at h2; exact ⟨hl.2, hl.1, f, by have := hl.1; simp only at this; omega, h2⟩
theorem BkAt.drew (h : BkAt w s TOT i F first wr) : BkAt w s TOT i F first wr.drew := h.below (Below.refl _ _).drew
theorem BkAt.put (h : BkAt w s TOT i F first wr) {k : Nat} {H : Nat → Bool} (hk : k ≤ s.length) (he : ∃ fu, s.length < fu + k ∧ restF s fu k H false = TOT) : BkAt w s TOT k H false (wr.setRow (w.heap.size + 1 + 1) (barr H)) :=
 ⟨hk, he, h.r0.setRow_other (by omega) _, h.r1.setRow_other (by omega) _, h.r2.put H, Below.setRow h.bel (by omega) _⟩
theorem BkAt.fresh (h : BkAt w s TOT i F first wr) (G : Nat → Bool) : BkAt w s TOT i F first ((wr.alloc (.cells (barr fun _ => false) 66)).setRow wr.heap.size (barr G)) :=
 ⟨h.il, h.eq, (h.r0.alloc _).setRow_other (by have := h.r0.lt; omega) _, (h.r1.alloc _).setRow_other (by have := h.r1.lt; omega) _, (h.r2.alloc _).setRow_other (by have := h.r2.lt; omega) _, Below.setRow (h.bel.alloc h.bel.size _) h.bel.size _⟩
end
theorem none_yes {F : Nat → Bool} (h : cnt F 256 = 0) : noneIn F = true := by
 cases hn : noneIn F with
 | true => rfl
 | false =>
  exfalso
  have hall : ∀ i, i < 256 → F i = (fun _ => false : Nat → Bool) i := fun i hi => cnt_zero h i hi
  have hz : noneIn (fun _ => false) = true := by decide +kernel
  unfold noneIn at hn hz
  rw [wd_congr (k := 0) (by omega) hall, wd_congr (k := 1) (by omega) hall, wd_congr (k := 2) (by omega) hall, wd_congr (k := 3) (by omega) hall, hz] at hn
  cases hn
def brkEnd (nt : Bool) : Option ((Nat → Bool) × Nat) → Option ((Nat → Bool) × Nat)
 | none => none
 | some (F, m) => if noneIn (if nt then (fun j => !F j) else F) then none else some ((if nt then (fun j => !F j) else F), m)
theorem brkR_end {s : List UInt8} (h : ah s 0 [91] = true) : brkR s = brkEnd (ah s 1 [94]) (restF s (s.length + 2) (sk s 1 [94]) (fun _ => false) true) := by
 unfold brkR brkEnd
 rw [h]
 rfl
def BkOut (R : Option ((Nat → Bool) × Nat)) (e : Ending) : Prop := match R with
 | some (F, m) => e = .returned (.tuple #[.agg (barr F), .int .i64 (m : Int), .int .i64 0])
 | none => e = .returned (.tuple #[.agg (barr fun _ => false), .int .i64 0, .int .i64 42])
theorem BkOut.no {R : Option ((Nat → Bool) × Nat)} (h : R = none) : BkOut R (.returned (.tuple #[.agg (barr fun _ => false), .int .i64 0, .int .i64 42])) := by rw [h]; rfl
theorem BkOut.yes {R : Option ((Nat → Bool) × Nat)} {F : Nat → Bool} {m : Nat} (h : R = some (F, m)) : BkOut R (.returned (.tuple #[.agg (barr F), .int .i64 (m : Int), .int .i64 0])) := by rw [h]; rfl
end Go.Proofs.YtkcbknfhckomcaaGreatDoor
namespace Go.Proofs.YtkcbknfhckomcaaGreatDoor
open Go.RowKit
theorem rnot_c (f : Nat → Bool) (w : World) :
  Calls Tryz.prog 104 #[bv f] w fun e w' => e = .returned (bv fun i => !f i) ∧ Below w.heap.size w w' := by
 obtain ⟨hz, hsz⟩ := zero_of_info (P := Tryz.prog) info27
 unfold bv
 go_enter Tryz.func104, Tryz.ntmps104
 go_wp2
 go_loopw [3] (fun i wr => ∃ k : Nat, k ≤ 256 ∧ i = .int .i64 k ∧ Row wr w.heap.size (fun j => if j < k then !f j else f j) ∧ Row wr (w.heap.size + 1) (fun _ => false) ∧ Below w.heap.size w wr) (fun i _ => 256 - (RowKit.intOf i).toNat)
 case atStart =>
  refine ⟨0, by omega, rfl, ?_, ?_, ((Below.refl _ w).alloc (Nat.le_refl _) _).alloc (by simp) _⟩
  ·exact ((Row.new w f).alloc _).congr fun i _ => by simp
  ·have := Row.new (w.alloc (.cells (barr f) 66)) (fun _ => false)
   rwa [World.size_alloc] at this
 case round =>
  obtain ⟨k, hk, rfl, h0, h1, hB⟩ := hrel
  by_cases hlt : k < 256
  ·have hc := h0.cell k hlt
   rw [if_neg (by omega)] at hc
   have hf := h0.fz k
   go_wp2
   go_roundw
   case rel =>
    refine ⟨k + 1, by omega, by simp, (h0.set k _).congr fun i _ => ?_, h1.other (by simp) _, hB.setCell (p := ⟨w.heap.size, k, none⟩) (Nat.le_refl _) _⟩
    by_cases e : i = k
    ·subst e; simp
    ·have e2 : (i < k + 1) = (i < k) := propext (by omega)
     simp [e, e2]
   case measure => simp [RowKit.intOf]; omega
  ·obtain rfl : k = 256 := by omega
   have h0 := h0.congr (g := fun i => !f i) (fun i hi => by simp [hi])
   have hst := h1.storeCells
   go_wp2
   refine wp_load_row h0 rfl rfl ?_
   go_wp2
   have q := h1.put (fun i => !f i)
   have ql := q.load
   refine bodyPost_ret (v := .agg (barr fun i => !f i)) ?_ rfl ⟨rfl, Below.setRow hB (by omega) _⟩
   simp [results, Tryz.results104, asAddr, Result.andThen, ql]
end Go.Proofs.YtkcbknfhckomcaaGreatDoor
