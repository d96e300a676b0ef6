/- Of no program: the nodes that are read fit. -/
import Derived.Test.YtdjcgjkbecncaaaGreatDoorJBrC
import Derived.Test.YtdjcgjkbecncaaaGreatDoorJBrKe
import Derived.Test.YtdjcgjkbecncaaaGreatDoorJBrKf
import Derived.Test.YtdjcgjkbecncaaaGreatDoorJBrIe
import Derived.Test.YtdjcgjkbecncaaaGreatDoorJRxTd
import Derived.Test.YtdjcgjkbecncaaaGreatDoorJRxLe
import Derived.Test.YtdjcgjkbecncaaaGreatDoorJRxTl
set_option linter.unusedVariables false
set_option linter.unusedSimpArgs false
set_option maxRecDepth 100000
set_option maxHeartbeats 40000000
namespace Go.Proofs.YtdjcgjkbecncaaaGreatDoor
open Go.RowKit
structure FL (r : BRd) : Prop where
 n : r.l.length ≤ 121
 g : r.g ≤ 9
 f : ∀ x ∈ r.l, x.Fits
def IdxOk (i : Int) : Prop := -1 ≤ i ∧ i ≤ 121
theorem fits_of {k : Int} {w0 w1 w2 w3 : Nat} {a b m M n : Int} (hk : -1000 ≤ k ∧ k ≤ 1000) (h0 : w0 < 18446744073709551616) (h1 : w1 < 18446744073709551616) (h2 : w2 < 18446744073709551616) (h3 : w3 < 18446744073709551616) (ha : -1000 ≤ a ∧ a ≤ 1000) (hb : -1000 ≤ b ∧ b ≤ 1000) (hm : -1000 ≤ m ∧ m ≤ 1000) (hM : -1000 ≤ M ∧ M ≤ 1000) (hn : -1000 ≤ n ∧ n ≤ 1000) : (⟨k, w0, w1, w2, w3, a, b, m, M, n⟩ : Nd).Fits :=
 ⟨by show _ ≤ k ∧ k ≤ _; omega, h0, h1, h2, h3, by show _ ≤ a ∧ a ≤ _; omega, by show _ ≤ b ∧ b ≤ _; omega, by show _ ≤ m ∧ m ≤ _; omega, by show _ ≤ M ∧ M ≤ _; omega, by show _ ≤ n ∧ n ≤ _; omega⟩
theorem byNd_fits (F : Nat → Bool) : (byNd F).Fits := fits_of (by decide) (wd_lt F 0) (wd_lt F 1) (wd_lt F 2) (wd_lt F 3) (by decide) (by decide) (by decide) (by decide) (by decide)
theorem bsmall_fits {k a b m M n : Int} (hk : -1000 ≤ k ∧ k ≤ 1000) (ha : -1000 ≤ a ∧ a ≤ 1000) (hb : -1000 ≤ b ∧ b ≤ 1000) (hm : -1000 ≤ m ∧ m ≤ 1000) (hM : -1000 ≤ M ∧ M ≤ 1000) (hn : -1000 ≤ n ∧ n ≤ 1000) : (⟨k, 0, 0, 0, 0, a, b, m, M, n⟩ : Nd).Fits := fits_of hk (by decide) (by decide) (by decide) (by decide) ha hb hm hM hn
theorem FL.put {r : BRd} (h : FL r) {x : Nd} (hx : x.Fits) : FL (r.put x) := by
 refine ⟨put_le r x h.n, h.g, fun y hy => ?_⟩
 unfold BRd.put at hy
 dsimp only at hy
 split at hy
 ·rcases List.mem_append.1 hy with q | q
  ·exact h.f y q
  ·rw [List.mem_singleton.1 q]; exact hx
 ·exact h.f y hy
theorem FL.to {r : BRd} (h : FL r) (i : Nat) : FL (r.to i) := ⟨h.n, h.g, h.f⟩
theorem FL.idx {r : BRd} (h : FL r) : IdxOk ((r.l.length : Int) - 1) := by
 have := h.n
 unfold IdxOk
 omega
theorem timesP_small {s : List UInt8} {i k : Nat} {a b : Int} (h : timesP s i = some (a, b, k)) : 0 ≤ a ∧ a ≤ 255 ∧ -1 ≤ b ∧ b ≤ 255 := by
 unfold timesP at h
 split at h
 ·cases h; decide
 ·simp only at h
  have hn : 0 ≤ (numP s (sk s i [92, 123])).1 := by unfold numP; exact Int.natCast_nonneg _
  generalize numP s (sk s i [92, 123]) = u at h hn
  generalize (if ah s u.2.2 [44] then (if ah s (u.2.2 + 1) [92, 125] then ((-1 : Int), true, u.2.2 + 1) else numP s (u.2.2 + 1)) else u) = v at h
  split at h
  ·cases h
  ·rename_i q
   simp only [Bool.or_eq_true, Bool.not_eq_true', not_or, Bool.not_eq_false] at q
   have hc := q.2
   cases h
   unfold isCountP at hc
   split at hc
   ·cases hc
   ·simp only [Bool.or_eq_true, Bool.and_eq_true, decide_eq_true_iff] at hc
    omega
theorem behP_fl {s : List UInt8} {r : BRd} (h : FL r) {i : Int} {q : BRd} (e : behP s r = .ok (i, q)) : FL q ∧ IdxOk i := by
 unfold behP at e
 split at e
 ·cases e; exact ⟨h, h.idx⟩
 split at e
 ·cases e
 ·rename_i a b k hk
  have hs := timesP_small hk
  split at e
  ·cases e
  ·simp only at e
   have hi := h.idx
   unfold IdxOk at hi
   have := (h.to k).put (bsmall_fits (k := 6) (a := (r.l.length : Int) - 1) (b := 0) (m := a) (M := b) (n := 0) (by decide) (by omega) (by decide) (by omega) (by omega) (by decide))
   cases e
   exact ⟨this, this.idx⟩
def RowF (row : BRd → Except Er (Bool × BRd)) : Prop := ∀ r, FL r → ∀ b q, row r = .ok (b, q) → FL q
theorem grpP_fl {s : List UInt8} {row : BRd → Except Er (Bool × BRd)} (hr : RowF row) {r : BRd} (h : FL r) {a : Nat} {q : BRd} (e : grpP s row r a = .ok q) : FL q := by
 unfold grpP at e
 split at e
 ·cases e
 rename_i hne
 have hg := h.g
 split at e
 ·cases e
 ·rename_i any q' hq
  have F := hr { r with g := r.g + 1 } ⟨h.n, (by show r.g + 1 ≤ 9; omega), h.f⟩ _ _ hq
  split at e
  ·cases e
  ·cases e
   have hi := F.idx
   unfold IdxOk at hi
   exact FL.put (r := { q' with p := q'.p + 2, en := fun k => if k = r.g + 1 then true else q'.en k }) ⟨F.n, F.g, F.f⟩ (bsmall_fits (k := 7) (a := (q'.l.length : Int) - 1) (b := 0) (m := 0) (M := 0) (n := (r.g : Int) + 1) (by decide) (by omega) (by decide) (by decide) (by decide) (by omega))
theorem escP_fl {s : List UInt8} {row : BRd → Except Er (Bool × BRd)} (hr : RowF row) {r : BRd} (h : FL r) {a : Nat} {q : BRd} (e : escP s row r a = .ok q) : FL q := by
 unfold escP at e
 split at e
 ·cases e
 ·rename_i b hb
  have hbl := b.toNat_lt
  split at e
  ·exact grpP_fl hr (h.to _) e
  split at e
  ·split at e
   ·cases e
   ·cases e
    exact (h.to _).put (bsmall_fits (k := 8) (a := 0) (b := 0) (m := 0) (M := 0) (n := (b.toNat : Int) - 48) (by decide) (by decide) (by decide) (by decide) (by decide) (by omega))
  split at e
  ·cases e; exact (h.to _).put (byNd_fits _)
  split at e
  ·cases e; exact (h.to _).put (byNd_fits _)
  split at e
  ·cases e
  ·cases e
theorem itemP_fl {s : List UInt8} {row : BRd → Except Er (Bool × BRd)} (hr : RowF row) {r : BRd} (h : FL r) {i : Int} {q : BRd} (e : itemP s row r = .ok (i, q)) : FL q ∧ IdxOk i := by
 unfold itemP at e
 split at e
 ·cases e
 ·split at e
  ·exact behP_fl ((h.to _).put (byNd_fits _)) e
  split at e
  ·split at e
   ·cases e
   ·exact behP_fl ((h.to _).put (byNd_fits _)) e
  split at e
  ·split at e
   ·cases e
   ·rename_i q' hq
    exact behP_fl (escP_fl hr (h.to _) hq) e
  split at e
  ·simp only at e
   have := (h.to (r.p + 1)).put (x := kindNd 3) (bsmall_fits (by decide) (by decide) (by decide) (by decide) (by decide) (by decide))
   cases e
   exact ⟨this, this.idx⟩
  ·exact behP_fl ((h.to _).put (byNd_fits _)) e
theorem itemsP_fl {s : List UInt8} {row : BRd → Except Er (Bool × BRd)} (hr : RowF row) : ∀ (f : Nat) (r : BRd) (ps l : List Int) (q : BRd), FL r → (∀ i ∈ ps, IdxOk i) → itemsP s row f r ps = .ok (l, q) → FL q ∧ ∀ i ∈ l, IdxOk i
 | 0, r, ps, l, q, h, hp, e => by cases e
 | f + 1, r, ps, l, q, h, hp, e => by
  rw [itemsP] at e
  split at e
  ·cases e; exact ⟨h, hp⟩
  split at e
  ·cases e
  ·rename_i i q' hq
   have I := itemP_fl hr h hq
   exact itemsP_fl hr f _ _ _ _ I.1 (fun j hj => by
    rcases List.mem_append.1 hj with t | t
    ·exact hp j t
    ·rw [List.mem_singleton.1 t]; exact I.2) e
theorem catsP_fl : ∀ (tl : List Int) (r : BRd) (b : Int), FL r → IdxOk b → (∀ i ∈ tl, IdxOk i) → FL (catsP tl r b)
 | [], r, b, h, hb, ht => h
 | a :: tl, r, b, h, hb, ht => by
  rw [catsP]
  have ha := ht a (by simp)
  unfold IdxOk at ha hb
  have := h.put (bsmall_fits (k := 4) (a := a) (b := b) (m := 0) (M := 0) (n := 0) (by decide) (by omega) (by omega) (by decide) (by decide) (by decide))
  exact catsP_fl tl _ _ this this.idx (fun i hi => ht i (by simp [hi]))
theorem rowP_fl (s : List UInt8) : ∀ f : Nat, RowF (rowP s f)
 | 0 => fun r h b q e => by cases e
 | f + 1 => fun r h b q e => by
  rw [rowP] at e
  try simp only at e
  obtain ⟨r1, h1⟩ : ∃ r1, r1 = (if ah s r.p [94] then (r.to (r.p + 1)).put (kindNd 2) else r) := ⟨_, rfl⟩
  obtain ⟨p1, h2⟩ : ∃ p1 : List Int, p1 = (if ah s r.p [94] then [(r1.l.length : Int) - 1] else []) := ⟨_, rfl⟩
  rw [← h1] at e
  rw [← h2] at e
  have f1 : FL r1 := by
   rw [h1]
   split
   ·exact (h.to _).put (bsmall_fits (by decide) (by decide) (by decide) (by decide) (by decide) (by decide))
   ·exact h
  have f2 : ∀ i ∈ p1, IdxOk i := by
   rw [h2]
   split
   ·intro i hi
    rw [List.mem_singleton.1 hi]; exact f1.idx
   ·intro i hi; cases hi
  split at e
  ·cases e
  ·rename_i ps q' hq
   have I := itemsP_fl (rowP_fl s f) _ _ _ _ _ f1 f2 hq
   split at e
   ·cases e; exact I.1
   ·rename_i b' tl hr
    have hm : ∀ i ∈ b' :: tl, IdxOk i := fun i hi => I.2 i (by rw [← hr] at hi; simpa using hi)
    cases e
    exact catsP_fl tl _ _ I.1 (hm _ (by simp)) (fun i hi => hm i (by simp [hi]))
theorem wholeP_fl (s : List UInt8) (q : BRd) (e : wholeP s = .ok q) : FL q := by
 unfold wholeP at e
 simp only at e
 have h0 : FL ⟨0, [], 0, fun _ => false⟩ := ⟨by simp, by simp, fun x hx => by cases hx⟩
 split at e
 ·cases e
  exact h0.put (bsmall_fits (by decide) (by decide) (by decide) (by decide) (by decide) (by decide))
 split at e
 ·cases e
 ·rename_i b q' hq
  have := rowP_fl s 10 _ h0 _ _ hq
  split at e
  ·cases e
  split at e
  ·cases e
  ·cases e; exact this
def parsedL (s : List UInt8) : List Nd := match wholeP s with
 | .ok q => q.l
 | .error _ => []
end Go.Proofs.YtdjcgjkbecncaaaGreatDoor
namespace Go.Proofs.YtdjcgjkbecncaaaGreatDoor
open Go.RowKit
structure Fit5 (w : World) : Prop where
 f : Fit3 w
 m : MaxL w
 s : SynV w
theorem Fit5.below {w w' : World} (h : Fit5 w) (hB : Below w.heap.size w w') : Fit5 w' := ⟨h.f.below hB, h.m.below hB, h.s.same (hB.block _ h.s.lt)⟩
theorem bnodes_of_own {w : World} {B n : Nat} {v : Value} {xs : List Nd} (h : w.ownsRow B 37 10 v n (flat xs)) (hn : xs.length = n) (hs : n ≤ 1000) (hf : ∀ (i : Nat) (x : Nd), xs[i]? = some x → x.Fits) :
  ∃ p cap, v = .slice p n cap ∧ Nodes w p n xs ∧ (1 ≤ n → ∃ g, p = some ⟨g, 0, none⟩ ∧ B ≤ g ∧ NodesAt w g 0 xs) := by
 rcases h.2 with ⟨rfl, rfl⟩ | ⟨g, cap, cur, rfl, hg, hb, _, _, hc, ht⟩
 ·exact ⟨none, 0, rfl, ⟨hn, by omega, fun h => absurd h (by omega), fun h => absurd h (by omega), hf⟩, fun h => absurd h (by omega)⟩
 ·have hN : NodesAt w g 0 xs := ⟨(Array.getElem?_eq_some_iff.1 hb).1, fun i x hx j u hj => by
   have hi : i < xs.length := (List.getElem?_eq_some_iff.1 hx).1
   have hj10 : j < 10 := by
    have := (Array.getElem?_eq_some_iff.1 hj).1
    simpa [Nd.cells] using this
   rw [cell_of _ _ _ _ hb, Nat.zero_add]
   have e1 := flat_get xs i j x hx hj10
   rw [hj] at e1
   have : (cur.toList.take (n * 10))[i * 10 + j]? = (flat xs)[i * 10 + j]? := by rw [ht]
   rw [List.getElem?_take_of_lt (by omega), e1] at this
   rw [← this]
   simp⟩
  refine ⟨some ⟨g, 0, none⟩, cap, rfl, ⟨hn, by omega, fun _ => ⟨g, 0, rfl⟩, fun _ b o e => ?_, hf⟩, fun _ => ⟨g, rfl, hg, hN⟩⟩
  simp only [Option.some.injEq, Addr.mk.injEq] at e
  obtain ⟨rfl, rfl, _⟩ := e
  exact hN
structure PNodes (w : World) (s : List UInt8) (e : Ending) (w' : World) (p : Option Addr) (n cap : Nat) (a z : Int) : Prop where
 e : e = .returned (.tuple #[.slice p n cap, .int .i64 a, .int .i64 z])
 x : Nodes w' p n (parsedL s)
 n : n ≤ 121
 ok : ∀ q, wholeP s = .ok q → a = 0 ∧ z = 0
 er : ∀ u v, wholeP s = .error (u, v) → z = u ∧ a = v
theorem pout_nodes {w w' : World} {s : List UInt8} {e : Ending} (h : POut w s e w') : ∃ p n cap a z, PNodes w s e w' p n cap a z := by
 unfold POut at h
 split at h
 ·rename_i q hq
  obtain ⟨v, rfl, ho, hb⟩ := h
  have hp : parsedL s = q.l := by unfold parsedL; rw [hq]
  have hn := (wholeP_fl s q hq).n
  obtain ⟨p, cap, rfl, hN, _⟩ := bnodes_of_own ho rfl (by omega) (fun i x hx => (wholeP_fl s q hq).f x (List.mem_of_getElem? hx))
  refine ⟨p, q.l.length, cap, 0, 0, rfl, by rw [hp]; exact hN, hn, fun q' h => ⟨rfl, rfl⟩, fun u v h => by (rw [hq] at h; cases h)⟩
 ·rename_i z a hq
  subst h
  have hp : parsedL s = [] := by unfold parsedL; rw [hq]
  refine ⟨none, 0, 0, _, _, rfl, ?_, by omega, fun q h => by (rw [hq] at h; cases h), fun u v h => by (rw [hq] at h; cases h; exact ⟨rfl, rfl⟩)⟩
  rw [hp]
  exact ⟨rfl, by omega, fun h => by omega, fun h => by omega, fun i x hx => by simp at hx⟩
def printsP (xs : List Nd) (t : T) : Bool := decide (parsedL (textT t) = xs)
theorem print_in (b o n cap : Nat) (xs : List Nd) (t : T) (hp : IsPat xs t) (hlen : xs.length = n) (hfit : ∀ (i : Nat) (x : Nd), xs[i]? = some x → x.Fits) (w : World) (hw : Fit5 w) (hx : NodesAt w b o xs) :
  Calls Tryz.prog 107 #[.slice (some ⟨b, o, none⟩) n cap] w fun e w' => e = .returned (.tuple #[.string ⟨(if printsP xs t then textT t else []).toArray⟩, .int .i64 (if printsP xs t then 0 else 1)]) ∧ Below w.heap.size w w' := by
 have hsz := hp.2.2.1
 have hn := hp.2.2.2.1
 have tp := t.size_pos
 obtain ⟨k, rfl⟩ : ∃ k, n = k + 1 := ⟨n - 1, by omega⟩
 have hnodes : ∀ w', NodesAt w' b o xs → Nodes w' (some ⟨b, o, none⟩) (k + 1) xs := fun w' h => ⟨hlen, by omega, fun _ => ⟨b, o, rfl⟩, fun _ b' o' e => by
  simp only [Option.some.injEq, Addr.mk.injEq] at e
  obtain ⟨rfl, rfl, _⟩ := e
  exact h, hfit⟩
 have HM := Lib.hid (may_n (some ⟨b, o, none⟩) (k + 1) cap xs true ⟨fun _ => ⟨t, hp⟩, fun _ => rfl⟩ w (hnodes w hx))
 have HT := Lib.hid fun w f x => textof_all b o (k + 1) cap xs hlen (by omega) hfit t hp.1 0 k w hp.2.1 (by omega) (by omega) f x
 have htl := textT_len t hp.1
 have HPS := Lib.hid fun w m y => bparse_c (textT t) (by omega) w m y
 have HE := Lib.hid fun p n c w (hn : n ≤ 1000) h h' => equal_c p (some ⟨b, o, none⟩) n (k + 1) c cap (parsedL (textT t)) xs hn w h h'
 have HF := Lib.hid hw
 have HX := Lib.hid hx
 have HN := Lib.hid hnodes
 have hpp : printsP xs t = decide (parsedL (textT t) = xs) := rfl
 rw [← hpp] at HE
 generalize printsP xs t = r at *
 generalize htt : textT t = s at *
 clear hpp htt hp hsz hfit hnodes hx hw
 go_enter Tryz.func107, Tryz.ntmps107
 go_wp2_with fail
 refine HM.out.mono ?_
 rintro e w1 ⟨rfl, hB1⟩
 have hx1 := HX.out.below hB1 HX.out.lt
 have hf1 := HF.out.below hB1
 go_wp2_with fail
 refine (HT.out _ hf1.f hx1).mono ?_
 rintro e w2 ⟨rfl, hB2⟩
 have hx2 := hx1.below hB2 hx1.lt
 have hf2 := hf1.below hB2
 have hb2 := hB1.trans (hB2.mono hB1.size)
 clear hx1 hf1 hB1 hB2 HM HT
 go_wp2_with fail
 refine (HPS.out _ hf2.m hf2.s).mono ?_
 rintro e w3 ⟨hout, hB3⟩
 obtain ⟨p, n, c, a, z, hpn⟩ := pout_nodes hout
 obtain ⟨rfl, hxn, hn121, _, _⟩ := hpn
 have hx3 := hx2.below hB3 hx2.lt
 have hb3 := hb2.trans (hB3.mono hb2.size)
 have HE3 := Lib.hid (HE.out p n c w3 (by omega) hxn (HN.out _ hx3))
 clear hout hB3 hx2 hf2 hb2 HPS HE hxn HN HX HF
 go_wp2_with fail
 refine HE3.out.mono ?_
 rintro e w4 ⟨rfl, hB4⟩
 have hb4 := hb3.trans (hB4.mono hb3.size)
 clear HE3 hB4 hb3
 cases r with
 | true =>
  go_wp2
  refine bodyPost_ret (v := .tuple #[.string ⟨s.toArray⟩, .int .i64 0]) (by simp [results, Tryz.results107, go_sem]) rfl ?_
  exact ⟨rfl, hb4⟩
 | false =>
  go_wp2
  refine bodyPost_ret (v := .tuple #[.string ⟨#[]⟩, .int .i64 1]) (by simp [results, Tryz.results107, go_sem]) rfl ?_
  exact ⟨rfl, hb4⟩
end Go.Proofs.YtdjcgjkbecncaaaGreatDoor
namespace Go.Proofs.YtdjcgjkbecncaaaGreatDoor
open Go.RowKit Go.Lib
def bA : Nd := ⟨1, 0, 8589934592, 0, 0, 0, 0, 0, 0, 0⟩
instance (xs : List Nd) (x : Nd) : Decidable (pOk xs x) := by unfold pOk; infer_instance
end Go.Proofs.YtdjcgjkbecncaaaGreatDoor
namespace Go.Proofs.YtdjcgjkbecncaaaGreatDoor
open Go.ChangeShapes Go.WideShapes Go.ChangeAt Go.RowKit
theorem Fit4.five {w : World} (h : Fit4 w) : Fit5 w := ⟨h.f, h.v.max, h.v.syn⟩
end Go.Proofs.YtdjcgjkbecncaaaGreatDoor
namespace Go.Proofs.YtdjcgjkbecncaaaGreatDoor
open Go.RowKit
structure EL where
 p : Nat
 n : Nat
 rows : List Int
 items : List Int
structure ES where
 p : Nat
 l : List Nd
 lo : List EL
 top : EL
 g : Nat
 ia : Bool
def ES.put (r : ES) (x : Nd) : ES := { r with l := if r.l.length ≤ 120 then r.l ++ [x] else r.l }
def ES.idx (r : ES) : Int := (r.l.length : Int) - 1
def ES.item (r : ES) (x : Nd) (n : Nat) (a : Bool) : ES :=
 { r.put x with p := r.p + n, ia := a, top := { r.top with items := r.top.items ++ [(r.put x).idx] } }
def ch1 (k : Int) (q : ES × Int) (a : Int) : ES × Int := (q.1.put ⟨k, 0, 0, 0, 0, a, q.2, 0, 0, 0⟩, (q.1.put ⟨k, 0, 0, 0, 0, a, q.2, 0, 0, 0⟩).idx)
def chE (k : Int) (r : ES) (parts : List Int) : ES × Int := parts.dropLast.reverse.foldl (ch1 k) (r, parts.getLastD 0)
def endE (r : ES) : Option ES :=
 if r.top.items = [] then none else
  some { (chE 4 r r.top.items).1 with top := { r.top with rows := r.top.rows ++ [(chE 4 r r.top.items).2], items := [] } }
def openE (r : ES) : Except Int ES :=
 if r.g = 9 then .error 41 else .ok { r with p := r.p + 1, lo := r.lo ++ [r.top], top := ⟨r.p, r.g + 1, [], []⟩, g := r.g + 1, ia := false }
def popE (r : ES) (t : EL) (lo : List EL) : ES := { r with lo := lo, top := t }
def shutE (r : ES) : Except Int ES :=
 match r.lo.getLast? with
 | none => .error 41
 | some t => match endE r with
  | none => .error 40
  | some q => .ok ((chE 5 (popE q t q.lo.dropLast) q.top.rows).1.item ⟨7, 0, 0, 0, 0, (chE 5 (popE q t q.lo.dropLast) q.top.rows).2, 0, 0, 0, (q.top.n : Int)⟩ 1 true)
def barE (r : ES) : Except Int ES :=
 match endE r with
 | none => .error 40
 | some q => .ok { q with p := q.p + 1, ia := false }
def timesE (r : ES) (n : Nat) (mn mx : Int) : Except Int ES :=
 if r.ia then .ok { r.put ⟨6, 0, 0, 0, 0, r.top.items.getLastD 0, 0, mn, mx, 0⟩ with p := r.p + n, ia := false, top := { r.top with items := r.top.items.dropLast ++ [(r.put ⟨6, 0, 0, 0, 0, r.top.items.getLastD 0, 0, mn, mx, 0⟩).idx] } } else .error 43
def numE (u : List UInt8) : Option (Nat × Int × Int) :=
 match wholeP ([97, 92, 123] ++ u.takeWhile (· != 125) ++ [92, 125]) with
 | .error _ => none
 | .ok q => if u.any (· == 125) then some ((u.takeWhile (· != 125)).length + 2, (q.l.getLastD (kindNd 0)).mn, (q.l.getLastD (kindNd 0)).mx) else none
def braceE (s : List UInt8) (r : ES) : Except Int ES :=
 match numE (s.drop (r.p + 1)) with
 | none => .error 43
 | some (n, m, M) => timesE r n m M
def setNd (F : Nat → Bool) : Nd := ⟨1, wd F 0, wd F 1, wd F 2, wd F 3, 0, 0, 0, 0, 0⟩
def escE (s : List UInt8) (r : ES) : Except Int ES :=
 match s[r.p + 1]? with
 | none => .error 40
 | some b => if b = 110 then .ok (r.item (setNd fun i => i == 10) 2 true)
  else if b = 47 ∨ b ∈ ([46, 91, 92, 40, 41, 42, 43, 63, 123, 125, 124, 94, 36] : List UInt8) then .ok (r.item (setNd fun i => i == b.toNat) 2 true)
  else if 49 ≤ b.toNat ∧ b.toNat ≤ 57 then .error 44 else .error 40
def listE (s : List UInt8) (r : ES) : Except Int ES :=
 match brkP (s.drop r.p) with
 | none => .error 42
 | some (F, m) => .ok (r.item (setNd F) m true)
def stepE (s : List UInt8) (r : ES) (b : UInt8) : Except Int ES :=
 if b = 94 then .ok (r.item (kindNd 2) 1 false) else if b = 36 then .ok (r.item (kindNd 3) 1 false) else if b = 46 then .ok (r.item (setNd fun _ => true) 1 true)
 else if b = 91 then listE s r else if b = 40 then openE r else if b = 41 then shutE r else if b = 124 then barE r else if b = 92 then escE s r
 else if b = 42 then timesE r 1 0 (-1) else if b = 43 then timesE r 1 1 (-1) else if b = 63 then timesE r 1 0 1 else if b = 123 then braceE s r
 else .ok (r.item (setNd fun i => i == b.toNat) 1 true)
def finE (s : List UInt8) (r : ES) : Except Er ES :=
 match endE r with
 | none => .error (40, s.length)
 | some q => if q.lo ≠ [] then .error (41, q.top.p) else
  if 120 < (chE 5 q q.top.rows).1.l.length then .error (2, 0) else .ok (chE 5 q q.top.rows).1
def loopE (s : List UInt8) : Nat → ES → Except Er ES
 | 0, r => finE s r
 | fu + 1, r => match s[r.p]? with
  | none => finE s r
  | some b => match stepE s r b with
   | .error e => .error (e, r.p)
   | .ok r' => loopE s fu r'
def startE : ES := ⟨0, [], [], ⟨0, 0, [], []⟩, 0, false⟩
def ereP (s : List UInt8) : Except Er (List Nd) :=
 if s = [] then .ok [kindNd 0] else match loopE s (s.length + 1) startE with
 | .error e => .error e
 | .ok r => .ok r.l
end Go.Proofs.YtdjcgjkbecncaaaGreatDoor
namespace Go.Proofs.YtdjcgjkbecncaaaGreatDoor
open Go.RowKit
structure AL where
 p : Nat
 n : Nat
 rows : List T
 items : List T
structure AS where
 p : Nat
 lo : List AL
 top : AL
 g : Nat
 ia : Bool
def szL (l : List T) : Nat := (l.map T.size).sum
def flatT : List T → Nat → List Nd
 | [], _ => []
 | t :: l, o => t.nodes o ++ flatT l (o + t.size)
def idxT : List T → Nat → List Int
 | [], _ => []
 | t :: l, o => ((o : Int) + t.size - 1) :: idxT l (o + t.size)
def chT (k : Int) : List T → T
 | [] => .leaf (kindNd 0)
 | [t] => t
 | t :: u :: l => .two k t (chT k (u :: l))
inductive Tk5 where
 | it (x : Nd) (n : Nat) (f : Bool)
 | op
 | sh
 | ba
 | tm (n : Nat) (m M : Int)
 | er (e : Int)
def escK (s : List UInt8) (p : Nat) : Tk5 :=
 match s[p + 1]? with
 | none => .er 40
 | some b => if b = 110 then .it (setNd fun i => i == 10) 2 true
  else if b = 47 ∨ b ∈ ([46, 91, 92, 40, 41, 42, 43, 63, 123, 125, 124, 94, 36] : List UInt8) then .it (setNd fun i => i == b.toNat) 2 true
  else if 49 ≤ b.toNat ∧ b.toNat ≤ 57 then .er 44 else .er 40
def tokE (s : List UInt8) (p : Nat) (b : UInt8) : Tk5 :=
 if b = 94 then .it (kindNd 2) 1 false else if b = 36 then .it (kindNd 3) 1 false else if b = 46 then .it (setNd fun _ => true) 1 true
 else if b = 91 then (match brkP (s.drop p) with | none => .er 42 | some (F, m) => .it (setNd F) m true)
 else if b = 40 then .op else if b = 41 then .sh else if b = 124 then .ba else if b = 92 then escK s p
 else if b = 42 then .tm 1 0 (-1) else if b = 43 then .tm 1 1 (-1) else if b = 63 then .tm 1 0 1
 else if b = 123 then (match numE (s.drop (p + 1)) with | none => .er 43 | some (n, m, M) => .tm n m M)
 else .it (setNd fun i => i == b.toNat) 1 true
def actE (r : ES) : Tk5 → Except Int ES
 | .it x n f => .ok (r.item x n f)
 | .op => openE r
 | .sh => shutE r
 | .ba => barE r
 | .tm n m M => timesE r n m M
 | .er e => .error e
theorem stepE_act (s : List UInt8) (r : ES) (b : UInt8) : stepE s r b = actE r (tokE s r.p b) := by
 unfold stepE tokE
 by_cases c1 : b = 94
 ·rw [if_pos c1, if_pos c1]; rfl
 rw [if_neg c1, if_neg c1]
 by_cases c2 : b = 36
 ·rw [if_pos c2, if_pos c2]; rfl
 rw [if_neg c2, if_neg c2]
 by_cases c3 : b = 46
 ·rw [if_pos c3, if_pos c3]; rfl
 rw [if_neg c3, if_neg c3]
 by_cases c4 : b = 91
 ·rw [if_pos c4, if_pos c4]
  unfold listE
  cases brkP (s.drop r.p) with
  | none => rfl
  | some a => rfl
 rw [if_neg c4, if_neg c4]
 by_cases c5 : b = 40
 ·rw [if_pos c5, if_pos c5]; rfl
 rw [if_neg c5, if_neg c5]
 by_cases c6 : b = 41
 ·rw [if_pos c6, if_pos c6]; rfl
 rw [if_neg c6, if_neg c6]
 by_cases c7 : b = 124
 ·rw [if_pos c7, if_pos c7]; rfl
 rw [if_neg c7, if_neg c7]
 by_cases c8 : b = 92
 ·rw [if_pos c8, if_pos c8]
  unfold escE escK
  cases s[r.p + 1]? with
  | none => rfl
  | some d =>
   simp only
   by_cases d1 : d = 110
   ·rw [if_pos d1, if_pos d1]; rfl
   rw [if_neg d1, if_neg d1]
   by_cases d2 : d = 47 ∨ d ∈ ([46, 91, 92, 40, 41, 42, 43, 63, 123, 125, 124, 94, 36] : List UInt8)
   ·rw [if_pos d2, if_pos d2]; rfl
   rw [if_neg d2, if_neg d2]
   by_cases d3 : 49 ≤ d.toNat ∧ d.toNat ≤ 57
   ·rw [if_pos d3, if_pos d3]; rfl
   rw [if_neg d3, if_neg d3]; rfl
 rw [if_neg c8, if_neg c8]
 by_cases c9 : b = 42
 ·rw [if_pos c9, if_pos c9]; rfl
 rw [if_neg c9, if_neg c9]
 by_cases c10 : b = 43
 ·rw [if_pos c10, if_pos c10]; rfl
 rw [if_neg c10, if_neg c10]
 by_cases c11 : b = 63
 ·rw [if_pos c11, if_pos c11]; rfl
 rw [if_neg c11, if_neg c11]
 by_cases c12 : b = 123
 ·rw [if_pos c12, if_pos c12]
  unfold braceE
  cases numE (s.drop (r.p + 1)) with
  | none => rfl
  | some a => rfl
 rw [if_neg c12, if_neg c12]
 rfl
def AS.item (r : AS) (t : T) (n : Nat) (f : Bool) : AS := { r with p := r.p + n, ia := f, top := { r.top with items := r.top.items ++ [t] } }
def endA (r : AS) : Option AS :=
 if r.top.items = [] then none else some { r with top := { r.top with rows := r.top.rows ++ [chT 4 r.top.items], items := [] } }
def openA (r : AS) : Except Int AS :=
 if r.g = 9 then .error 41 else .ok { r with p := r.p + 1, lo := r.lo ++ [r.top], top := ⟨r.p, r.g + 1, [], []⟩, g := r.g + 1, ia := false }
def shutA (r : AS) : Except Int AS :=
 match r.lo.getLast? with
 | none => .error 41
 | some t => match endA r with
  | none => .error 40
  | some q => .ok (AS.item { q with lo := q.lo.dropLast, top := t } (.group (q.top.n : Int) (chT 5 q.top.rows)) 1 true)
def barA (r : AS) : Except Int AS :=
 match endA r with
 | none => .error 40
 | some q => .ok { q with p := q.p + 1, ia := false }
def timesA (r : AS) (n : Nat) (m M : Int) : Except Int AS :=
 if r.ia then .ok { r with p := r.p + n, ia := false, top := { r.top with items := r.top.items.dropLast ++ [.times m M (r.top.items.getLastD (.leaf (kindNd 0)))] } } else .error 43
def actA (r : AS) : Tk5 → Except Int AS
 | .it x n f => .ok (r.item (.leaf x) n f)
 | .op => openA r
 | .sh => shutA r
 | .ba => barA r
 | .tm n m M => timesA r n m M
 | .er e => .error e
def finA (s : List UInt8) (r : AS) : Except Er T :=
 match endA r with
 | none => .error (40, s.length)
 | some q => if q.lo ≠ [] then .error (41, q.top.p) else .ok (chT 5 q.top.rows)
def loopA (s : List UInt8) : Nat → AS → Except Er T
 | 0, r => finA s r
 | fu + 1, r => match s[r.p]? with
  | none => finA s r
  | some b => match actA r (tokE s r.p b) with
   | .error e => .error (e, r.p)
   | .ok r' => loopA s fu r'
def startA : AS := ⟨0, [], ⟨0, 0, [], []⟩, 0, false⟩
def treeP (s : List UInt8) : Except Er T := loopA s (s.length + 1) startA
theorem szL_app (l m : List T) : szL (l ++ m) = szL l + szL m := by simp [szL]
theorem szL_cons (t : T) (l : List T) : szL (t :: l) = t.size + szL l := by simp [szL]
theorem szL_one (t : T) : szL [t] = t.size := by simp [szL]
theorem flatT_len : ∀ (l : List T) (o : Nat), (flatT l o).length = szL l
 | [], _ => rfl
 | t :: l, o => by rw [flatT, List.length_append, T.nodes_len, flatT_len l, szL_cons]
theorem idxT_len : ∀ (l : List T) (o : Nat), (idxT l o).length = l.length
 | [], _ => rfl
 | t :: l, o => by rw [idxT, List.length_cons, idxT_len l, List.length_cons]
theorem flatT_app : ∀ (l m : List T) (o : Nat), flatT (l ++ m) o = flatT l o ++ flatT m (o + szL l)
 | [], m, o => by simp [flatT, szL]
 | t :: l, m, o => by rw [List.cons_append, flatT, flatT_app l m, flatT, szL_cons, List.append_assoc, Nat.add_assoc]
theorem idxT_app : ∀ (l m : List T) (o : Nat), idxT (l ++ m) o = idxT l o ++ idxT m (o + szL l)
 | [], m, o => by simp [idxT, szL]
 | t :: l, m, o => by rw [List.cons_append, idxT, idxT_app l m, idxT, szL_cons, Nat.add_assoc]; rfl
theorem chT_size (k : Int) : ∀ (l : List T), l ≠ [] → (chT k l).size + 1 = szL l + l.length
 | [], h => absurd rfl h
 | [t], _ => by simp [chT, szL]
 | t :: u :: l, _ => by
  have := chT_size k (u :: l) (by simp)
  rw [chT, szL_cons]
  simp only [T.size, List.length_cons] at *
  omega
theorem ch1_l (k : Int) (q : ES × Int) (a : Int) : (ch1 k q a).1.l.length = if q.1.l.length ≤ 120 then q.1.l.length + 1 else q.1.l.length := by
 unfold ch1 ES.put
 simp only
 split <;> simp
theorem chF_full (k : Int) : ∀ (ps : List Int) (q : ES × Int), q.1.l.length ≤ 121 → (ps.foldl (ch1 k) q).1.l.length = min 121 (q.1.l.length + ps.length)
 | [], q, h => by simp; omega
 | a :: ps, q, h => by
  have h1 := ch1_l k q a
  rw [List.foldl_cons, chF_full k ps _ (by rw [h1]; split <;> omega), h1, List.length_cons]
  split <;> omega
theorem chE_tree (k : Int) : ∀ (ts : List T), ts ≠ [] → ∀ (pre : List Nd) (r : ES), r.l = pre ++ flatT ts pre.length → pre.length + (chT k ts).size ≤ 121 →
  chE k r (idxT ts pre.length) = ({ r with l := pre ++ (chT k ts).nodes pre.length }, (pre.length : Int) + (chT k ts).size - 1)
 | [], h, _, _, _, _ => absurd rfl h
 | [t], _, pre, r, hr, hs => by
  simp only [chT, idxT, chE, List.dropLast_singleton, List.reverse_nil, List.foldl_nil, List.getLastD_cons, List.getLastD_nil]
  rw [show pre ++ t.nodes pre.length = r.l by rw [hr]; simp [flatT]]
 | t :: u :: l, _, pre, r, hr, hs => by
  have hsz : (chT k (t :: u :: l)).size = t.size + (chT k (u :: l)).size + 1 := rfl
  have hl : (pre ++ t.nodes pre.length).length = pre.length + t.size := by rw [List.length_append, T.nodes_len]
  have ih := chE_tree k (u :: l) (by simp) (pre ++ t.nodes pre.length) r (by rw [hl, hr, flatT, List.append_assoc]) (by rw [hl]; omega)
  rw [hl] at ih
  have hne : idxT (u :: l) (pre.length + t.size) ≠ [] := by simp [idxT]
  have e : chE k r (idxT (t :: u :: l) pre.length) = ch1 k (chE k r (idxT (u :: l) (pre.length + t.size))) ((pre.length : Int) + t.size - 1) := by
   unfold chE
   rw [show idxT (t :: u :: l) pre.length = ((pre.length : Int) + t.size - 1) :: idxT (u :: l) (pre.length + t.size) from rfl]
   rw [List.dropLast_cons_of_ne_nil hne, List.reverse_cons, List.foldl_append]
   simp only [List.foldl_cons, List.foldl_nil]
   congr 2
  rw [e, ih]
  have hn : (pre ++ t.nodes pre.length ++ (chT k (u :: l)).nodes (pre.length + t.size)).length = pre.length + t.size + (chT k (u :: l)).size := by rw [List.length_append, hl, T.nodes_len]
  unfold ch1 ES.put ES.idx
  simp only
  rw [if_pos (by rw [hn]; omega)]
  have hr2 : (T.root (.two k t (chT k (u :: l))) pre.length) = ⟨k, 0, 0, 0, 0, (pre.length : Int) + t.size - 1, ((pre.length + t.size : Nat) : Int) + (chT k (u :: l)).size - 1, 0, 0, 0⟩ := by
   simp only [T.root]
   congr 1
  rw [← hr2]
  have hnn : pre ++ t.nodes pre.length ++ (chT k (u :: l)).nodes (pre.length + t.size) ++ [T.root (.two k t (chT k (u :: l))) pre.length] = pre ++ (chT k (t :: u :: l)).nodes pre.length := by
   simp [chT, T.nodes]
  rw [hnn]
  congr 1
  rw [List.length_append, T.nodes_len]
  omega
end Go.Proofs.YtdjcgjkbecncaaaGreatDoor
namespace Go.Proofs.YtdjcgjkbecncaaaGreatDoor
open Go.RowKit
def KeepT (Ts : List TypeId) (b : Nat) (w w' : World) : Prop := ∀ k o, w.heap[k]? = some o → k ≠ b → (∀ T ∈ Ts, ∀ c fz, o ≠ .cells c T fz) → w'.heap[k]? = some o
theorem KeepT.refl (Ts : List TypeId) (b : Nat) (w : World) : KeepT Ts b w w := fun _ _ h _ _ => h
theorem KeepT.trans {Ts : List TypeId} {b : Nat} {w w1 w2 : World} (h : KeepT Ts b w w1) (k : KeepT Ts b w1 w2) : KeepT Ts b w w2 := fun i o hi hb ho => k i o (h i o hi hb ho) hb ho
theorem KeepT.below {Ts : List TypeId} {b : Nat} {w w' : World} (h : Below w.heap.size w w') : KeepT Ts b w w' := fun k o hk _ _ => (h.block k (Array.getElem?_eq_some_iff.1 hk).1).trans hk
theorem KeepT.mono {Ts Us : List TypeId} {b : Nat} {w w' : World} (h : KeepT Ts b w w') (hs : ∀ T ∈ Ts, T ∈ Us) : KeepT Us b w w' := fun k o hk hb ho => h k o hk hb (fun T hT => ho T (hs T hT))
theorem own_block {w : World} {B n s : Nat} {T : TypeId} {v : Value} {xs : List Value} (h : w.ownsRow B T s v n xs) {k : Nat} (hk : v.ownBlock = some k) : ∃ c, w.heap[k]? = some (.cells c T (0, 0)) := by
 rcases h.2 with ⟨rfl, _⟩ | ⟨g, cap, cur, rfl, _, hg, _⟩
 ·simp [Value.ownBlock] at hk
 ·simp [Value.ownBlock] at hk; subst hk; exact ⟨_, hg⟩
theorem own_keepT {w w' : World} {B n s b : Nat} {T : TypeId} {Ts : List TypeId} {v : Value} {xs : List Value} (h : w.ownsRow B T s v n xs) (k : KeepT Ts b w w') (hT : T ∉ Ts) (hb : v.ownBlock ≠ some b) : w'.ownsRow B T s v n xs := by
 refine ⟨h.1, ?_⟩
 rcases h.2 with hn | ⟨g, cap, cur, rfl, h1, hg, rest⟩
 ·exact .inl hn
 ·refine .inr ⟨g, cap, cur, rfl, h1, k g _ hg (fun e => hb (by simp [Value.ownBlock, e])) (fun U hU c fz e => ?_), rest⟩
  cases e
  exact hT hU
theorem own_ty {w : World} {B B' n n' s s' : Nat} {T U : TypeId} {v u : Value} {xs ys : List Value} (h : w.ownsRow B T s v n xs) (h' : w.ownsRow B' U s' u n' ys) (hTU : T ≠ U) : v.ownBlock = none ∨ v.ownBlock ≠ u.ownBlock := by
 cases e : v.ownBlock with
 | none => exact .inl rfl
 | some k =>
  refine .inr (fun e2 => ?_)
  obtain ⟨c, hc⟩ := own_block h e
  obtain ⟨c', hc'⟩ := own_block h' e2.symm
  rw [hc] at hc'
  cases hc'
  exact hTU rfl
theorem own_blk {w : World} {B n s b : Nat} {T U : TypeId} {v : Value} {xs : List Value} {c : Array Value} (h : w.ownsRow B T s v n xs) (hb : w.heap[b]? = some (.cells c U (0, 0))) (hTU : T ≠ U) : v.ownBlock ≠ some b := by
 intro e
 obtain ⟨c', hc'⟩ := own_block h e
 rw [hb] at hc'
 cases hc'
 exact hTU rfl
def lcs4 (t : EL) (v : Value × Value) : List Value := [.int .i64 (t.p : Int), .int .i64 (t.n : Int), v.1, v.2]
def lrow4 : List EL → List (Value × Value) → List Value
 | t :: l, v :: m => lcs4 t v ++ lrow4 l m
 | _, _ => []
def ilist (l : List Int) : List Value := l.map (Value.int .i64)
structure LV (B : Nat) (w : World) (t : EL) (v : Value × Value) : Prop where
 a : w.ownsRow B 3 1 v.1 t.rows.length (ilist t.rows)
 b : w.ownsRow B 3 1 v.2 t.items.length (ilist t.items)
def apart (a c : Value) : Prop := a.ownBlock = none ∨ a.ownBlock ≠ c.ownBlock
def vals (vs : List (Value × Value)) : List Value := vs.flatMap fun p => [p.1, p.2]
inductive LVs (B : Nat) (w : World) : List EL → List (Value × Value) → Prop where
 | nil : LVs B w [] []
 | cons {t l v m} : LV B w t v → LVs B w l m → LVs B w (t :: l) (v :: m)
theorem LVs.keep {B : Nat} {w w' : World} (k : ∀ v n xs, w.ownsRow B 3 1 v n xs → w'.ownsRow B 3 1 v n xs) : ∀ {l : List EL} {vs : List (Value × Value)}, LVs B w l vs → LVs B w' l vs
 | _, _, .nil => .nil
 | _, _, .cons h r => .cons ⟨k _ _ _ h.a, k _ _ _ h.b⟩ (LVs.keep k r)
def ecells (s : List UInt8) (r : ES) (vl vL : Value) : Array Value := #[.string ⟨s.toArray⟩, .int .i64 (r.p : Int), vl, vL, .int .i64 (r.g : Int), .bool r.ia]
structure EP (B : Nat) (l : List Nd) (lv : List EL) (vl vL : Value) (vs : List (Value × Value)) (w : World) : Prop where
 nl : w.ownsRow B 37 10 vl l.length (flat l)
 lw : w.ownsRow B 55 4 vL lv.length (lrow4 lv vs)
 ls : LVs B w lv vs
 ap : (vals vs).Pairwise apart
 nodes : l.length ≤ 121
theorem lvs_len {B : Nat} {w : World} : ∀ {l : List EL} {vs : List (Value × Value)}, LVs B w l vs → l.length = vs.length
 | _, _, .nil => rfl
 | _, _, .cons _ r => by simp [lvs_len r]
theorem lvs_snoc {B : Nat} {w : World} {t : EL} {v : Value × Value} : ∀ {l : List EL} {vs : List (Value × Value)}, LVs B w (l ++ [t]) (vs ++ [v]) → LVs B w l vs ∧ LV B w t v
 | [], [], .cons h _ => ⟨.nil, h⟩
 | [], _ :: vs, .cons _ r => by have := lvs_len r; simp at this
 | _ :: l, [], .cons _ r => by have := lvs_len r; simp at this
 | _ :: l, _ :: vs, .cons h r => ⟨.cons h (lvs_snoc r).1, (lvs_snoc r).2⟩
theorem lvs_mk {B : Nat} {w : World} {t : EL} {v : Value × Value} (h : LV B w t v) : ∀ {l : List EL} {vs : List (Value × Value)}, LVs B w l vs → LVs B w (l ++ [t]) (vs ++ [v])
 | _, _, .nil => .cons h .nil
 | _, _, .cons a r => .cons a (lvs_mk h r)
theorem lrow4_app (t : EL) (v : Value × Value) : ∀ (l : List EL) (vs : List (Value × Value)), l.length = vs.length → lrow4 (l ++ [t]) (vs ++ [v]) = lrow4 l vs ++ lcs4 t v
 | [], [], _ => by simp [lrow4]
 | _ :: l, _ :: vs, h => by simp only [List.cons_append, lrow4]; rw [lrow4_app t v l vs (by simpa using h)]; simp
 | [], _ :: _, h => by simp at h
 | _ :: _, [], h => by simp at h
theorem lrow4_len : ∀ (l : List EL) (vs : List (Value × Value)), l.length = vs.length → (lrow4 l vs).length = l.length * 4
 | [], [], _ => rfl
 | _ :: l, _ :: vs, h => by simp only [lrow4, List.length_append, lrow4_len l vs (by simpa using h), lcs4, List.length_cons, List.length_nil]; omega
 | [], _ :: _, h => by simp at h
 | _ :: _, [], h => by simp at h
theorem EP.keepT {B b : Nat} {l : List Nd} {lv : List EL} {vl vL : Value} {vs : List (Value × Value)} {w w' : World} {c : Array Value} {U : TypeId} (h : EP B l lv vl vL vs w) (hb : w.heap[b]? = some (.cells c U (0, 0))) (hU : U = 58)
  {l' : List Nd} {vl' : Value} (k : KeepT [37] b w w') (hn : w'.ownsRow B 37 10 vl' l'.length (flat l')) (hl : l'.length ≤ 121) : EP B l' lv vl' vL vs w' := by
 subst hU
 refine ⟨hn, own_keepT h.lw k (by decide) (own_blk h.lw hb (by decide)), LVs.keep (fun v n xs hv => own_keepT hv k (by decide) (own_blk hv hb (by decide))) h.ls, h.ap, hl⟩
theorem EP.keep {B b : Nat} {l : List Nd} {lv : List EL} {vl vL : Value} {vs : List (Value × Value)} {w w' : World} {c : Array Value} {U : TypeId} (h : EP B l lv vl vL vs w) (hb : w.heap[b]? = some (.cells c U (0, 0))) (hU : U = 58)
  (k : KeepT [] b w w') : EP B l lv vl vL vs w' := by
 have hU2 := hU
 subst hU
 exact h.keepT hb hU2 (k.mono (fun T hT => by cases hT)) (own_keepT h.nl k (by simp) (own_blk h.nl hb (by decide))) h.nodes
structure EM (B b mb : Nat) (mo : Obj) (s : List UInt8) (r : ES) (vl vL : Value) (vo : List (Value × Value)) (vt : Value × Value) (w : World) : Prop where
 heap : w.heap[b]? = some (.cells (ecells s r vl vL) 58 (0, 0))
 ge : B ≤ b
 map : w.heap[mb]? = some mo
 nc : mo.isCells = false
 P : EP B r.l (r.lo ++ [r.top]) vl vL (vo ++ [vt]) w
 len : s.length ≤ 100000
 small : r.p ≤ s.length
 gs : r.g ≤ 9
theorem EP.top {B : Nat} {l : List Nd} {lo : List EL} {t : EL} {vl vL : Value} {vo : List (Value × Value)} {vt : Value × Value} {w : World} (h : EP B l (lo ++ [t]) vl vL (vo ++ [vt]) w) :
  ∃ g cap, vL = .slice (some ⟨g, 0, none⟩) (lo.length + 1) cap ∧ B ≤ g ∧ (∀ j v, (lcs4 t vt)[j]? = some v → w.cell? ⟨g, lo.length * 4 + j, none⟩ = some v) ∧ (∀ j, w.frozen? ⟨g, j, none⟩ = false) ∧ g < w.heap.size ∧ cap ≤ maxLen := by
 have hl := lvs_len (lvs_snoc h.ls).1
 have hw := h.lw
 have e1 : (lo ++ [t]).length = lo.length + 1 := by simp
 rw [e1, lrow4_app t vt lo vo hl] at hw
 rcases hw.2 with ⟨_, h0⟩ | ⟨g, cap, cur, e, hB, hg, hn, hc, hs, ht⟩
 ·omega
 ·subst e
  refine ⟨g, cap, rfl, hB, fun j v hj => ?_, fun j => hw.frozenAt j, (Array.getElem?_eq_some_iff.1 hg).1, hc⟩
  have hj4 : j < 4 := by have := (List.getElem?_eq_some_iff.1 hj).1; simpa [lcs4] using this
  rw [hw.cellAt _ (by omega), List.getElem?_append_right (by rw [lrow4_len _ _ hl]; omega), lrow4_len _ _ hl]
  rw [show lo.length * 4 + j - lo.length * 4 = j by omega]
  exact hj
section
variable {B b mb : Nat} {mo : Obj} {s : List UInt8} {r r' : ES} {vl vL vl' : Value} {vo : List (Value × Value)} {vt : Value × Value} {w w' : World}
theorem EM.lt (h : EM B b mb mo s r vl vL vo vt w) : b < w.heap.size := (Array.getElem?_eq_some_iff.1 h.heap).1
theorem EM.cell (h : EM B b mb mo s r vl vL vo vt w) (j : Nat) : w.cell? ⟨b, j, none⟩ = (ecells s r vl vL)[j]? := cell_of _ _ _ _ h.heap j
theorem EM.fz (h : EM B b mb mo s r vl vL vo vt w) (j : Nat) : w.frozen? ⟨b, j, none⟩ = false := frozen_of _ _ _ _ h.heap j
theorem EM.mb_ne (h : EM B b mb mo s r vl vL vo vt w) : mb ≠ b := fun e => by
 have := h.map; have h2 := h.heap; have h3 := h.nc
 rw [e, h2] at this; cases this; cases h3
theorem EM.keep (h : EM B b mb mo s r vl vL vo vt w) (k : KeepT [] w.heap.size w w') : EM B b mb mo s r vl vL vo vt w' := by
 have hb := h.lt
 have kb : w'.heap[b]? = some (.cells (ecells s r vl vL) 58 (0, 0)) := k b _ h.heap (by omega) (fun T hT => by cases hT)
 refine ⟨kb, h.ge, k mb _ h.map (by have := (Array.getElem?_eq_some_iff.1 h.map).1; omega) (fun T hT => by cases hT), h.nc, h.P.keep h.heap rfl (fun i o hi hne _ => ?_), h.len, h.small, h.gs⟩
 exact k i o hi (by have := (Array.getElem?_eq_some_iff.1 hi).1; omega) (fun T hT => by cases hT)
theorem EM.below (h : EM B b mb mo s r vl vL vo vt w) (hB : Below w.heap.size w w') : EM B b mb mo s r vl vL vo vt w' := h.keep (KeepT.below hB)
theorem EM.alloc (h : EM B b mb mo s r vl vL vo vt w) (o : Obj) : EM B b mb mo s r vl vL vo vt (w.alloc o) := h.below ((Below.refl _ w).alloc (Nat.le_refl _) o)
theorem EM.drew (h : EM B b mb mo s r vl vL vo vt w) : EM B b mb mo s r vl vL vo vt w.drew := h.below (Below.refl _ w).drew
theorem EM.set (h : EM B b mb mo s r vl vL vo vt w) (hb : w'.heap[b]? = some (.cells (ecells s r' vl vL) 58 (0, 0))) (hk : ∀ k, k ≠ b → w'.heap[k]? = w.heap[k]?)
  (e1 : r'.l = r.l) (e2 : r'.lo = r.lo) (e3 : r'.top = r.top) (e4 : r'.p ≤ s.length) (e5 : r'.g ≤ 9) : EM B b mb mo s r' vl vL vo vt w' := by
 refine ⟨hb, h.ge, (hk mb h.mb_ne).trans h.map, h.nc, ?_, h.len, e4, e5⟩
 rw [e1, e2, e3]
 exact h.P.keep h.heap rfl (fun k o hko hne _ => (hk k hne).trans hko)
theorem EM.slice (h : EM B b mb mo s r vl vL vo vt w) : ∃ o cap, vl = .slice o r.l.length cap := by
 rcases h.P.nl.2 with ⟨e, h0⟩ | ⟨g, cap, cur, e, _⟩
 ·exact ⟨none, 0, by rw [e, h0]⟩
 ·exact ⟨_, cap, e⟩
structure EK (B b : Nat) (w w' : World) : Prop where
 bel : Below B w w'
 k : KeepT [37] b w w'
theorem EK.refl : EK B b w w := ⟨Below.refl _ _, KeepT.refl _ _ _⟩
theorem EK.trans {w2 : World} (h : EK B b w w') (k : EK B b w' w2) : EK B b w w2 := ⟨h.bel.trans k.bel, h.k.trans k.k⟩
end
end Go.Proofs.YtdjcgjkbecncaaaGreatDoor
