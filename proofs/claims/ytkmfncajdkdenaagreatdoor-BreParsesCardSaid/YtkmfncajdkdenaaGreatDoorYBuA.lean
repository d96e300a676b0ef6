/- Of no program: the nodes that are read fit. -/
import Derived.Test.YtkmfncajdkdenaaGreatDoorYBrC
import Derived.Test.YtkmfncajdkdenaaGreatDoorYBrKe
import Derived.Test.YtkmfncajdkdenaaGreatDoorYBrKf
import Derived.Test.YtkmfncajdkdenaaGreatDoorYBrIe
import Derived.Test.YtkmfncajdkdenaaGreatDoorYRxTd
import Derived.Test.YtkmfncajdkdenaaGreatDoorYRxL
set_option linter.unusedVariables false
set_option linter.unusedSimpArgs false
set_option maxRecDepth 100000
set_option maxHeartbeats 40000000
namespace Go.Proofs.YtkmfncajdkdenaaGreatDoor
open Go.RowKit
structure FL (r : BRd) : Prop where
 n : r.l.length ≤ 121
 g : r.g ≤ 9
 f : ∀ x ∈ r.l, x.Fits
def IdxOk (i : Int) : Prop := -1 ≤ i ∧ i ≤ 121
theorem fits_of {k : Int} {w0 w1 w2 w3 : Nat} {a b m M n : Int} (hk : -1000 ≤ k ∧ k ≤ 1000) (h0 : w0 < 18446744073709551616) (h1 : w1 < 18446744073709551616) (h2 : w2 < 18446744073709551616) (h3 : w3 < 18446744073709551616) (ha : -1000 ≤ a ∧ a ≤ 1000) (hb : -1000 ≤ b ∧ b ≤ 1000) (hm : -1000 ≤ m ∧ m ≤ 1000) (hM : -1000 ≤ M ∧ M ≤ 1000) (hn : -1000 ≤ n ∧ n ≤ 1000) : (⟨k, w0, w1, w2, w3, a, b, m, M, n⟩ : Nd).Fits :=
 ⟨by show _ ≤ k ∧ k ≤ _; omega, h0, h1, h2, h3, by show _ ≤ a ∧ a ≤ _; omega, by show _ ≤ b ∧ b ≤ _; omega, by show _ ≤ m ∧ m ≤ _; omega, by show _ ≤ M ∧ M ≤ _; omega, by show _ ≤ n ∧ n ≤ _; omega⟩
theorem byNd_fits (F : Nat → Bool) : (byNd F).Fits := fits_of (by decide) (wd_lt F 0) (wd_lt F 1) (wd_lt F 2) (wd_lt F 3) (by decide) (by decide) (by decide) (by decide) (by decide)
theorem bsmall_fits {k a b m M n : Int} (hk : -1000 ≤ k ∧ k ≤ 1000) (ha : -1000 ≤ a ∧ a ≤ 1000) (hb : -1000 ≤ b ∧ b ≤ 1000) (hm : -1000 ≤ m ∧ m ≤ 1000) (hM : -1000 ≤ M ∧ M ≤ 1000) (hn : -1000 ≤ n ∧ n ≤ 1000) : (⟨k, 0, 0, 0, 0, a, b, m, M, n⟩ : Nd).Fits := fits_of hk (by decide) (by decide) (by decide) (by decide) ha hb hm hM hn
theorem FL.put {r : BRd} (h : FL r) {x : Nd} (hx : x.Fits) : FL (r.put x) := by
 refine ⟨put_le r x h.n, h.g, fun y hy => ?_⟩
 unfold BRd.put at hy
 dsimp only at hy
 split at hy
 ·rcases List.mem_append.1 hy with q | q
  ·exact h.f y q
  ·rw [List.mem_singleton.1 q]; exact hx
 ·exact h.f y hy
theorem FL.to {r : BRd} (h : FL r) (i : Nat) : FL (r.to i) := ⟨h.n, h.g, h.f⟩
theorem FL.idx {r : BRd} (h : FL r) : IdxOk ((r.l.length : Int) - 1) := by
 have := h.n
 unfold IdxOk
 omega
theorem timesP_small {s : List UInt8} {i k : Nat} {a b : Int} (h : timesP s i = some (a, b, k)) : 0 ≤ a ∧ a ≤ 255 ∧ -1 ≤ b ∧ b ≤ 255 := by
 unfold timesP at h
 split at h
 ·cases h; decide
 ·simp only at h
  have hn : 0 ≤ (numP s (sk s i [92, 123])).1 := by unfold numP; exact Int.natCast_nonneg _
  generalize numP s (sk s i [92, 123]) = u at h hn
  generalize (if ah s u.2.2 [44] then (if ah s (u.2.2 + 1) [92, 125] then ((-1 : Int), true, u.2.2 + 1) else numP s (u.2.2 + 1)) else u) = v at h
  split at h
  ·cases h
  ·rename_i q
   simp only [Bool.or_eq_true, Bool.not_eq_true', not_or, Bool.not_eq_false] at q
   have hc := q.2
   cases h
   unfold isCountP at hc
   split at hc
   ·cases hc
   ·simp only [Bool.or_eq_true, Bool.and_eq_true, decide_eq_true_iff] at hc
    omega
theorem behP_fl {s : List UInt8} {r : BRd} (h : FL r) {i : Int} {q : BRd} (e : behP s r = .ok (i, q)) : FL q ∧ IdxOk i := by
 unfold behP at e
 split at e
 ·cases e; exact ⟨h, h.idx⟩
 split at e
 ·cases e
 ·rename_i a b k hk
  have hs := timesP_small hk
  split at e
  ·cases e
  ·simp only at e
   have hi := h.idx
   unfold IdxOk at hi
   have := (h.to k).put (bsmall_fits (k := 6) (a := (r.l.length : Int) - 1) (b := 0) (m := a) (M := b) (n := 0) (by decide) (by omega) (by decide) (by omega) (by omega) (by decide))
   cases e
   exact ⟨this, this.idx⟩
def RowF (row : BRd → Except Er (Bool × BRd)) : Prop := ∀ r, FL r → ∀ b q, row r = .ok (b, q) → FL q
theorem grpP_fl {s : List UInt8} {row : BRd → Except Er (Bool × BRd)} (hr : RowF row) {r : BRd} (h : FL r) {a : Nat} {q : BRd} (e : grpP s row r a = .ok q) : FL q := by
 unfold grpP at e
 split at e
 ·cases e
 rename_i hne
 have hg := h.g
 split at e
 ·cases e
 ·rename_i any q' hq
  have F := hr { r with g := r.g + 1 } ⟨h.n, (by show r.g + 1 ≤ 9; omega), h.f⟩ _ _ hq
  split at e
  ·cases e
  ·cases e
   have hi := F.idx
   unfold IdxOk at hi
   exact FL.put (r := { q' with p := q'.p + 2, en := fun k => if k = r.g + 1 then true else q'.en k }) ⟨F.n, F.g, F.f⟩ (bsmall_fits (k := 7) (a := (q'.l.length : Int) - 1) (b := 0) (m := 0) (M := 0) (n := (r.g : Int) + 1) (by decide) (by omega) (by decide) (by decide) (by decide) (by omega))
theorem escP_fl {s : List UInt8} {row : BRd → Except Er (Bool × BRd)} (hr : RowF row) {r : BRd} (h : FL r) {a : Nat} {q : BRd} (e : escP s row r a = .ok q) : FL q := by
 unfold escP at e
 split at e
 ·cases e
 ·rename_i b hb
  have hbl := b.toNat_lt
  split at e
  ·exact grpP_fl hr (h.to _) e
  split at e
  ·split at e
   ·cases e
   ·cases e
    exact (h.to _).put (bsmall_fits (k := 8) (a := 0) (b := 0) (m := 0) (M := 0) (n := (b.toNat : Int) - 48) (by decide) (by decide) (by decide) (by decide) (by decide) (by omega))
  split at e
  ·cases e; exact (h.to _).put (byNd_fits _)
  split at e
  ·cases e; exact (h.to _).put (byNd_fits _)
  split at e
  ·cases e
  ·cases e
theorem itemP_fl {s : List UInt8} {row : BRd → Except Er (Bool × BRd)} (hr : RowF row) {r : BRd} (h : FL r) {i : Int} {q : BRd} (e : itemP s row r = .ok (i, q)) : FL q ∧ IdxOk i := by
 unfold itemP at e
 split at e
 ·cases e
 ·split at e
  ·exact behP_fl ((h.to _).put (byNd_fits _)) e
  split at e
  ·split at e
   ·cases e
   ·exact behP_fl ((h.to _).put (byNd_fits _)) e
  split at e
  ·split at e
   ·cases e
   ·rename_i q' hq
    exact behP_fl (escP_fl hr (h.to _) hq) e
  split at e
  ·simp only at e
   have := (h.to (r.p + 1)).put (x := kindNd 3) (bsmall_fits (by decide) (by decide) (by decide) (by decide) (by decide) (by decide))
   cases e
   exact ⟨this, this.idx⟩
  ·exact behP_fl ((h.to _).put (byNd_fits _)) e
theorem itemsP_fl {s : List UInt8} {row : BRd → Except Er (Bool × BRd)} (hr : RowF row) : ∀ (f : Nat) (r : BRd) (ps l : List Int) (q : BRd), FL r → (∀ i ∈ ps, IdxOk i) → itemsP s row f r ps = .ok (l, q) → FL q ∧ ∀ i ∈ l, IdxOk i
 | 0, r, ps, l, q, h, hp, e => by cases e
 | f + 1, r, ps, l, q, h, hp, e => by
  rw [itemsP] at e
  split at e
  ·cases e; exact ⟨h, hp⟩
  split at e
  ·cases e
  ·rename_i i q' hq
   have I := itemP_fl hr h hq
   exact itemsP_fl hr f _ _ _ _ I.1 (fun j hj => by
    rcases List.mem_append.1 hj with t | t
    ·exact hp j t
    ·rw [List.mem_singleton.1 t]; exact I.2) e
theorem catsP_fl : ∀ (tl : List Int) (r : BRd) (b : Int), FL r → IdxOk b → (∀ i ∈ tl, IdxOk i) → FL (catsP tl r b)
 | [], r, b, h, hb, ht => h
 | a :: tl, r, b, h, hb, ht => by
  rw [catsP]
  have ha := ht a (by simp)
  unfold IdxOk at ha hb
  have := h.put (bsmall_fits (k := 4) (a := a) (b := b) (m := 0) (M := 0) (n := 0) (by decide) (by omega) (by omega) (by decide) (by decide) (by decide))
  exact catsP_fl tl _ _ this this.idx (fun i hi => ht i (by simp [hi]))
theorem rowP_fl (s : List UInt8) : ∀ f : Nat, RowF (rowP s f)
 | 0 => fun r h b q e => by cases e
 | f + 1 => fun r h b q e => by
  rw [rowP] at e
  try simp only at e
  obtain ⟨r1, h1⟩ : ∃ r1, r1 = (if ah s r.p [94] then (r.to (r.p + 1)).put (kindNd 2) else r) := ⟨_, rfl⟩
  obtain ⟨p1, h2⟩ : ∃ p1 : List Int, p1 = (if ah s r.p [94] then [(r1.l.length : Int) - 1] else []) := ⟨_, rfl⟩
  rw [← h1] at e
  rw [← h2] at e
  have f1 : FL r1 := by
   rw [h1]
   split
   ·exact (h.to _).put (bsmall_fits (by decide) (by decide) (by decide) (by decide) (by decide) (by decide))
   ·exact h
  have f2 : ∀ i ∈ p1, IdxOk i := by
   rw [h2]
   split
   ·intro i hi
    rw [List.mem_singleton.1 hi]; exact f1.idx
   ·intro i hi; cases hi
  split at e
  ·cases e
  ·rename_i ps q' hq
   have I := itemsP_fl (rowP_fl s f) _ _ _ _ _ f1 f2 hq
   split at e
   ·cases e; exact I.1
   ·rename_i b' tl hr
    have hm : ∀ i ∈ b' :: tl, IdxOk i := fun i hi => I.2 i (by rw [← hr] at hi; simpa using hi)
    cases e
    exact catsP_fl tl _ _ I.1 (hm _ (by simp)) (fun i hi => hm i (by simp [hi]))
theorem wholeP_fl (s : List UInt8) (q : BRd) (e : wholeP s = .ok q) : FL q := by
 unfold wholeP at e
 simp only at e
 have h0 : FL ⟨0, [], 0, fun _ => false⟩ := ⟨by simp, by simp, fun x hx => by cases hx⟩
 split at e
 ·cases e
  exact h0.put (bsmall_fits (by decide) (by decide) (by decide) (by decide) (by decide) (by decide))
 split at e
 ·cases e
 ·rename_i b q' hq
  have := rowP_fl s 10 _ h0 _ _ hq
  split at e
  ·cases e
  split at e
  ·cases e
  ·cases e; exact this
def parsedL (s : List UInt8) : List Nd := match wholeP s with
 | .ok q => q.l
 | .error _ => []
theorem parsedL_fits (s : List UInt8) : ∀ x ∈ parsedL s, x.Fits := by
 unfold parsedL
 intro x hx
 split at hx
 ·rename_i q hq
  exact (wholeP_fl s q hq).f x hx
 ·cases hx
end Go.Proofs.YtkmfncajdkdenaaGreatDoor
namespace Go.Proofs.YtkmfncajdkdenaaGreatDoor
open Go.RowKit
structure Fit5 (w : World) : Prop where
 f : Fit3 w
 m : MaxL w
 s : SynV w
theorem Fit5.below {w w' : World} (h : Fit5 w) (hB : Below w.heap.size w w') : Fit5 w' := ⟨h.f.below hB, h.m.below hB, h.s.same (hB.block _ h.s.lt)⟩
theorem bnodes_of_own {w : World} {B n : Nat} {v : Value} {xs : List Nd} (h : w.ownsRow B 72 10 v n (flat xs)) (hn : xs.length = n) (hs : n ≤ 1000) (hf : ∀ (i : Nat) (x : Nd), xs[i]? = some x → x.Fits) :
  ∃ p cap, v = .slice p n cap ∧ Nodes w p n xs ∧ (1 ≤ n → ∃ g, p = some ⟨g, 0, none⟩ ∧ B ≤ g ∧ NodesAt w g 0 xs) := by
 rcases h.2 with ⟨rfl, rfl⟩ | ⟨g, cap, cur, rfl, hg, hb, _, _, hc, ht⟩
 ·exact ⟨none, 0, rfl, ⟨hn, by omega, fun h => absurd h (by omega), fun h => absurd h (by omega), hf⟩, fun h => absurd h (by omega)⟩
 ·have hN : NodesAt w g 0 xs := ⟨(Array.getElem?_eq_some_iff.1 hb).1, fun i x hx j u hj => by
   have hi : i < xs.length := (List.getElem?_eq_some_iff.1 hx).1
   have hj10 : j < 10 := by
    have := (Array.getElem?_eq_some_iff.1 hj).1
    simpa [Nd.cells] using this
   rw [cell_of _ _ _ _ hb, Nat.zero_add]
   have e1 := flat_get xs i j x hx hj10
   rw [hj] at e1
   have : (cur.toList.take (n * 10))[i * 10 + j]? = (flat xs)[i * 10 + j]? := by rw [ht]
   rw [List.getElem?_take_of_lt (by omega), e1] at this
   rw [← this]
   simp⟩
  refine ⟨some ⟨g, 0, none⟩, cap, rfl, ⟨hn, by omega, fun _ => ⟨g, 0, rfl⟩, fun _ b o e => ?_, hf⟩, fun _ => ⟨g, rfl, hg, hN⟩⟩
  simp only [Option.some.injEq, Addr.mk.injEq] at e
  obtain ⟨rfl, rfl, _⟩ := e
  exact hN
structure PNodes (w : World) (s : List UInt8) (e : Ending) (w' : World) (p : Option Addr) (n cap : Nat) (a z : Int) : Prop where
 e : e = .returned (.tuple #[.slice p n cap, .int .i64 a, .int .i64 z])
 x : Nodes w' p n (parsedL s)
 n : n ≤ 121
 ok : ∀ q, wholeP s = .ok q → a = 0 ∧ z = 0
 er : ∀ u v, wholeP s = .error (u, v) → z = u ∧ a = v
theorem pout_nodes {w w' : World} {s : List UInt8} {e : Ending} (h : POut w s e w') : ∃ p n cap a z, PNodes w s e w' p n cap a z := by
 unfold POut at h
 split at h
 ·rename_i q hq
  obtain ⟨v, rfl, ho, hb⟩ := h
  have hp : parsedL s = q.l := by unfold parsedL; rw [hq]
  have hn := (wholeP_fl s q hq).n
  obtain ⟨p, cap, rfl, hN, _⟩ := bnodes_of_own ho rfl (by omega) (fun i x hx => (wholeP_fl s q hq).f x (List.mem_of_getElem? hx))
  refine ⟨p, q.l.length, cap, 0, 0, rfl, by rw [hp]; exact hN, hn, fun q' h => ⟨rfl, rfl⟩, fun u v h => by (rw [hq] at h; cases h)⟩
 ·rename_i z a hq
  subst h
  have hp : parsedL s = [] := by unfold parsedL; rw [hq]
  refine ⟨none, 0, 0, _, _, rfl, ?_, by omega, fun q h => by (rw [hq] at h; cases h), fun u v h => by (rw [hq] at h; cases h; exact ⟨rfl, rfl⟩)⟩
  rw [hp]
  exact ⟨rfl, by omega, fun h => by omega, fun h => by omega, fun i x hx => by simp at hx⟩
def printsP (xs : List Nd) (t : T) : Bool := decide (parsedL (textT t) = xs)
theorem print_in (b o n cap : Nat) (xs : List Nd) (t : T) (hp : IsPat xs t) (hlen : xs.length = n) (hfit : ∀ (i : Nat) (x : Nd), xs[i]? = some x → x.Fits) (w : World) (hw : Fit5 w) (hx : NodesAt w b o xs) :
  Calls Tryz.prog 15 #[.slice (some ⟨b, o, none⟩) n cap] w fun e w' => e = .returned (.tuple #[.string ⟨(if printsP xs t then textT t else []).toArray⟩, .int .i64 (if printsP xs t then 0 else 1)]) ∧ Below w.heap.size w w' := by
 have hsz := hp.2.2.1
 have hn := hp.2.2.2.1
 have tp := t.size_pos
 obtain ⟨k, rfl⟩ : ∃ k, n = k + 1 := ⟨n - 1, by omega⟩
 have hnodes : ∀ w', NodesAt w' b o xs → Nodes w' (some ⟨b, o, none⟩) (k + 1) xs := fun w' h => ⟨hlen, by omega, fun _ => ⟨b, o, rfl⟩, fun _ b' o' e => by
  simp only [Option.some.injEq, Addr.mk.injEq] at e
  obtain ⟨rfl, rfl, _⟩ := e
  exact h, hfit⟩
 have HM := Lib.hid (may_n (some ⟨b, o, none⟩) (k + 1) cap xs true ⟨fun _ => ⟨t, hp⟩, fun _ => rfl⟩ w (hnodes w hx))
 have HT := Lib.hid fun w f x => textof_all b o (k + 1) cap xs hlen (by omega) hfit t hp.1 0 k w hp.2.1 (by omega) (by omega) f x
 have htl := textT_len t hp.1
 have HPS := Lib.hid fun w m y => bparse_c (textT t) (by omega) w m y
 have HE := Lib.hid fun p n c w (hn : n ≤ 1000) h h' => equal_c p (some ⟨b, o, none⟩) n (k + 1) c cap (parsedL (textT t)) xs hn w h h'
 have HF := Lib.hid hw
 have HX := Lib.hid hx
 have HN := Lib.hid hnodes
 have hpp : printsP xs t = decide (parsedL (textT t) = xs) := rfl
 rw [← hpp] at HE
 generalize printsP xs t = r at *
 generalize htt : textT t = s at *
 clear hpp htt hp hsz hfit hnodes hx hw
 go_enter Tryz.func15, Tryz.ntmps15
 go_wp2_with fail
 refine HM.out.mono ?_
 rintro e w1 ⟨rfl, hB1⟩
 have hx1 := HX.out.below hB1 HX.out.lt
 have hf1 := HF.out.below hB1
 go_wp2_with fail
 refine (HT.out _ hf1.f hx1).mono ?_
 rintro e w2 ⟨rfl, hB2⟩
 have hx2 := hx1.below hB2 hx1.lt
 have hf2 := hf1.below hB2
 have hb2 := hB1.trans (hB2.mono hB1.size)
 clear hx1 hf1 hB1 hB2 HM HT
 go_wp2_with fail
 refine (HPS.out _ hf2.m hf2.s).mono ?_
 rintro e w3 ⟨hout, hB3⟩
 obtain ⟨p, n, c, a, z, hpn⟩ := pout_nodes hout
 obtain ⟨rfl, hxn, hn121, _, _⟩ := hpn
 have hx3 := hx2.below hB3 hx2.lt
 have hb3 := hb2.trans (hB3.mono hb2.size)
 have HE3 := Lib.hid (HE.out p n c w3 (by omega) hxn (HN.out _ hx3))
 clear hout hB3 hx2 hf2 hb2 HPS HE hxn HN HX HF
 go_wp2_with fail
 refine HE3.out.mono ?_
 rintro e w4 ⟨rfl, hB4⟩
 have hb4 := hb3.trans (hB4.mono hb3.size)
 clear HE3 hB4 hb3
 cases r with
 | true =>
  go_wp2
  refine bodyPost_ret (v := .tuple #[.string ⟨s.toArray⟩, .int .i64 0]) (by simp [results, Tryz.results15, go_sem]) rfl ?_
  exact ⟨rfl, hb4⟩
 | false =>
  go_wp2
  refine bodyPost_ret (v := .tuple #[.string ⟨#[]⟩, .int .i64 1]) (by simp [results, Tryz.results15, go_sem]) rfl ?_
  exact ⟨rfl, hb4⟩
end Go.Proofs.YtkmfncajdkdenaaGreatDoor
namespace Go.Proofs.YtkmfncajdkdenaaGreatDoor
open Go.RowKit Go.Lib
def sB : List UInt8 := [94, 97, 42, 92, 40, 98, 92, 41, 92, 49, 91, 120, 45, 122, 93, 36]
def sC : List UInt8 := [97, 92, 40, 98]
def bA : Nd := ⟨1, 0, 8589934592, 0, 0, 0, 0, 0, 0, 0⟩
def bB : Nd := ⟨1, 0, 17179869184, 0, 0, 0, 0, 0, 0, 0⟩
def bX : Nd := ⟨1, 0, 504403158265495552, 0, 0, 0, 0, 0, 0, 0⟩
def bR : Nd := ⟨8, 0, 0, 0, 0, 0, 0, 0, 0, 1⟩
def tB : T := .two 4 (.leaf (kindNd 2)) (.two 4 (.times 0 (-1) (.leaf bA)) (.two 4 (.group 1 (.leaf bB)) (.two 4 (.leaf bR) (.two 4 (.leaf bX) (.leaf (kindNd 3))))))
def xB : List Nd := [kindNd 2, bA, ⟨6, 0, 0, 0, 0, 1, 0, 0, -1, 0⟩, bB, ⟨7, 0, 0, 0, 0, 3, 0, 0, 0, 1⟩, bR, bX, kindNd 3, ⟨4, 0, 0, 0, 0, 6, 7, 0, 0, 0⟩, ⟨4, 0, 0, 0, 0, 5, 8, 0, 0, 0⟩, ⟨4, 0, 0, 0, 0, 4, 9, 0, 0, 0⟩, ⟨4, 0, 0, 0, 0, 2, 10, 0, 0, 0⟩, ⟨4, 0, 0, 0, 0, 0, 11, 0, 0, 0⟩]
theorem parsedB : parsedL sB = xB := by decide +kernel
def wholeE (s : List UInt8) : Option Er := match wholeP s with
 | .error e => some e
 | .ok _ => none
theorem wholeC : wholeP sC = .error (41, 1) := by
 have h : wholeE sC = some (41, 1) := by decide +kernel
 unfold wholeE at h
 split at h
 ·rename_i e he
  cases h; exact he
 ·cases h
theorem wholeB : ∃ q, wholeP sB = .ok q := by
 cases h : wholeP sB with
 | ok q => exact ⟨q, rfl⟩
 | error e =>
  have := parsedB
  unfold parsedL at this
  rw [h] at this
  cases this
theorem mem_cases {P : Nd → Prop} {l : List Nd} (h : ∀ x ∈ l, P x) (i : Nat) (x : Nd) (hx : l[i]? = some x) : P x := h x (List.mem_of_getElem? hx)
theorem fitsB : ∀ (i : Nat) (x : Nd), xB[i]? = some x → x.Fits := by
 rw [← parsedB]
 exact mem_cases (parsedL_fits sB)
theorem isNdB : ∀ x ∈ xB, isNd x = true := by decide +kernel
instance (xs : List Nd) (x : Nd) : Decidable (pOk xs x) := by unfold pOk; infer_instance
theorem pOkB : ∀ x ∈ xB, pOk xB x := by decide +kernel
theorem patB : IsPat xB tB := by
 refine ⟨?_, ?_, rfl, by decide, mem_cases isNdB, mem_cases pOkB, by decide +kernel⟩
 ·exact ⟨.inl rfl, ⟨by decide +kernel, .inr (.inr (.inl rfl))⟩, .inl rfl, ⟨by decide +kernel, ⟨by decide +kernel, .inr (.inl rfl)⟩⟩, .inl rfl, ⟨by decide +kernel, by decide +kernel, .inr (.inl rfl)⟩, .inl rfl, ⟨by decide +kernel, .inr (.inr (.inr (.inr rfl)))⟩, .inl rfl, ⟨by decide +kernel, .inr (.inl rfl)⟩, ⟨by decide +kernel, .inr (.inr (.inr (.inl rfl)))⟩⟩
 ·exact ⟨rfl, ⟨⟨rfl, rfl⟩, ⟨⟨rfl, rfl⟩, ⟨rfl, ⟨rfl, rfl, rfl⟩, rfl⟩, rfl⟩, rfl⟩, rfl⟩
theorem showA : showP bA.set = [97] := by decide +kernel
theorem showB : showP bB.set = [98] := by decide +kernel
theorem showX : showP bX.set = [91, 120, 45, 122, 93] := by decide +kernel
theorem itoa_1 : itoa 1 = [49] := by
 unfold itoa
 rw [if_neg (by omega)]
 exact decDigits_one (by decide)
theorem textB : textT tB = sB := by
 have ka : textT (.leaf bA) = [97] := by
  unfold textT
  rw [if_pos (by rfl), showA]
 have kb : textT (.leaf bB) = [98] := by
  unfold textT
  rw [if_pos (by rfl), showB]
 have kx : textT (.leaf bX) = [91, 120, 45, 122, 93] := by
  unfold textT
  rw [if_pos (by rfl), showX]
 have kr : textT (.leaf bR) = [92, 49] := by
  unfold textT
  rw [if_neg (by decide), if_neg (by decide), if_neg (by decide), if_pos (by rfl)]
  show [92] ++ itoa 1 = _
  rw [itoa_1]; rfl
 have k2 : textT (.leaf (kindNd 2)) = [94] := rfl
 have k3 : textT (.leaf (kindNd 3)) = [36] := rfl
 have kt : timesT 0 (-1) = [42] := rfl
 show (textT (.leaf (kindNd 2))) ++ ((textT (.leaf bA) ++ timesT 0 (-1)) ++ (([92, 40] ++ textT (.leaf bB) ++ [92, 41]) ++ (textT (.leaf bR) ++ (textT (.leaf bX) ++ textT (.leaf (kindNd 3)))))) = sB
 rw [ka, kb, kx, kr, k2, k3, kt]
 rfl
theorem printsB : printsP xB tB = true := by
 unfold printsP
 rw [textB, parsedB]
 decide
theorem gcntB : gcnt xB 13 = 1 := by decide +kernel
theorem anyRefB : anyRef xB 13 := ⟨5, bR, by decide, rfl, rfl⟩
end Go.Proofs.YtkmfncajdkdenaaGreatDoor
namespace Go.Proofs.YtkmfncajdkdenaaGreatDoor
open Go.RowKit Go.Lib
theorem parseB (w : World) (hw : Fit5 w) :
  Calls Tryz.prog 10 #[.string ⟨#[94, 97, 42, 92, 40, 98, 92, 41, 92, 49, 91, 120, 45, 122, 93, 36]⟩] w fun e w' => (∃ b o cap, e = .returned (.tuple #[.slice (some ⟨b, o, none⟩) 13 cap, .int .i64 0, .int .i64 0]) ∧ NodesAt w' b o xB) ∧ Below w.heap.size w w' := by
 refine (bparse_c sB (by decide) w hw.m hw.s).mono ?_
 rintro e w' ⟨hout, hB⟩
 refine ⟨?_, hB⟩
 obtain ⟨p, n, cap, a, z, he, hx, hn, hok, her⟩ := pout_nodes hout
 obtain ⟨q, hq⟩ := wholeB
 obtain ⟨rfl, rfl⟩ := hok q hq
 rw [parsedB] at hx
 obtain rfl : 13 = n := hx.len
 obtain ⟨b, o, rfl⟩ := hx.ptr (by omega)
 exact ⟨b, o, cap, he, hx.at' (by omega) b o rfl⟩
theorem parseC (w : World) (hw : Fit5 w) :
  Calls Tryz.prog 10 #[.string ⟨#[97, 92, 40, 98]⟩] w fun e w' => e = .returned (.tuple #[.slice none 0 0, .int .i64 1, .int .i64 41]) ∧ Below w.heap.size w w' := by
 refine (bparse_c sC (by decide) w hw.m hw.s).mono ?_
 rintro e w' ⟨hout, hB⟩
 unfold POut at hout
 rw [wholeC] at hout
 exact ⟨hout, hB⟩
theorem printB (b o cap : Nat) (w : World) (hw : Fit5 w) (hx : NodesAt w b o xB) :
  Calls Tryz.prog 15 #[.slice (some ⟨b, o, none⟩) 13 cap] w fun e w' => e = .returned (.tuple #[.string ⟨#[94, 97, 42, 92, 40, 98, 92, 41, 92, 49, 91, 120, 45, 122, 93, 36]⟩, .int .i64 0]) ∧ Below w.heap.size w w' := by
 have h := print_in b o 13 cap xB tB patB rfl fitsB w hw hx
 rw [printsB, if_pos rfl, if_pos rfl, textB] at h
 exact h
theorem shown4_c (w : World) (hw : Fit5 w) : Calls Tryz.prog 6 #[] w fun e w' => e = .returned (.bool true) ∧ Below w.heap.size w w' := by
 have HP := Lib.hid (parseB w hw)
 have HW := Lib.hid hw
 clear hw
 go_enter Tryz.func6, Tryz.ntmps6
 go_wp2_with fail
 refine HP.out.mono ?_
 rintro e w1 ⟨⟨b, o, cap, rfl, hx1⟩, hB1⟩
 have hf1 := HW.out.below hB1
 have HPR := Lib.hid (printB b o cap w1 hf1 hx1)
 clear HP HW
 go_wp2_with fail
 refine HPR.out.mono ?_
 rintro e w2 ⟨rfl, hB2⟩
 have hf2 := hf1.below hB2
 have hx2 := hx1.below hB2 hx1.lt
 have b2 := hB1.trans (hB2.mono hB1.size)
 have HPC := Lib.hid (parseC w2 hf2)
 clear HPR hf1 hx1 hB1 hB2
 go_wp2_with fail
 refine HPC.out.mono ?_
 rintro e w3 ⟨rfl, hB3⟩
 have hf3 := hf2.below hB3
 have hx3 := hx2.below hB3 hx2.lt
 have b3 := b2.trans (hB3.mono b2.size)
 have HG := Lib.hid fun w hx => groups_in b o 13 cap xB rfl (by omega) (by omega) fitsB ⟨tB, patB⟩ w hx
 rw [gcntB] at HG
 have HR := Lib.hid fun w hx => refs_in b o 13 cap xB rfl (by omega) (by omega) fitsB ⟨tB, patB⟩ true ⟨fun _ => anyRefB, fun _ => rfl⟩ w hx
 clear HPC hf2 hx2 b2 hB3
 go_wp2_with fail
 refine (HG.out _ hx3).mono ?_
 rintro e w4 ⟨rfl, hB4⟩
 have hx4 := hx3.below hB4 hx3.lt
 have b4 := b3.trans (hB4.mono b3.size)
 go_wp2_with fail
 refine (HR.out _ hx4).mono ?_
 rintro e w5 ⟨rfl, hB5⟩
 have b5 := b4.trans (hB5.mono b4.size)
 clear hB4 hB5 HG HR
 go_wp2
 go_ret
 exact ⟨rfl, b5⟩
end Go.Proofs.YtkmfncajdkdenaaGreatDoor
namespace Go.Proofs.YtkmfncajdkdenaaGreatDoor
open Go.ChangeShapes Go.WideShapes Go.ChangeAt Go.RowKit
theorem Fit4.five {w : World} (h : Fit4 w) : Fit5 w := ⟨h.f, h.v.max, h.v.syn⟩
end Go.Proofs.YtkmfncajdkdenaaGreatDoor
namespace Go.Proofs.YtkmfncajdkdenaaGreatDoor
open Go.RowKit
def nxB (s : List UInt8) (i : Nat) : UInt8 := (s[i + 1]?).getD 0
def rba (s : List UInt8) (i : Nat) (first ends : Bool) : UInt8 × Nat × Bool :=
 match s[i]? with
 | none => (0, 0, false)
 | some c =>
  if c = 91 ∧ (nxB s i = 46 ∨ nxB s i = 61 ∨ nxB s i = 58) then
   if nxB s i ≠ 58 ∧ s[i + 3]? = some (nxB s i) ∧ s[i + 4]? = some 93 then ((s[i + 2]?).getD 0, 5, decide (nxB s i = 46)) else (0, 0, false)
  else if c = 92 ∧ nxB s i = 110 then (10, 2, true)
  else if c = 93 ∧ first = false then (0, 0, false)
  else if c = 45 ∧ first = false ∧ ends = false ∧ nxB s i ≠ 93 then (0, 0, false)
  else (c, 1, true)
def partR (s : List UInt8) (i : Nat) (first : Bool) : Option ((Nat → Bool) × Nat) :=
 if ah s i [91, 58] then clasP s (i + 2) else
 let p := rba s i first false
 if p.2.1 = 0 then none else
 if ah s (i + p.2.1) [45] && decide (i + p.2.1 + 1 < s.length) && !ah s (i + p.2.1) [45, 93] then
  let x := rba s (i + p.2.1 + 1) false true
  if x.2.1 = 0 ∨ x.2.2 = false ∨ p.2.2 = false ∨ x.1.toNat < p.1.toNat then none else some (rg p.1.toNat x.1.toNat, i + p.2.1 + 1 + x.2.1)
 else some (rg p.1.toNat p.1.toNat, i + p.2.1)
def restR (s : List UInt8) : Nat → Nat → (Nat → Bool) → Option ((Nat → Bool) × Nat)
 | 0, _, _ => none
 | f + 1, i, F => if ah s i [93] then some (F, i + 1) else
  match partR s i false with
  | none => none
  | some (G, k) => restR s f k (fun j => F j || G j)
theorem nx_some {s : List UInt8} {i : Nat} {c : UInt8} (h : c ≠ 0) : (nxB s i = c) = (s[i + 1]? = some c) := by
 unfold nxB
 cases s[i + 1]? with
 | none => simp [eq_comm, h]
 | some d => simp
theorem rba_none {s : List UInt8} {i : Nat} (f e : Bool) (h : s[i]? = none) : rba s i f e = (0, 0, false) := by unfold rba; rw [h]
theorem rba_one (s : List UInt8) (i : Nat) (first : Bool) (h58 : ah s i [91, 58] = false) (h61 : ah s i [91, 61] = false) (hf : first = true ∨ ah s i [93] = false)
  (hd : (ah s i [45] && !first && !ah s i [45, 93]) = false) :
  match oneP s i with
  | none => (rba s i first false).2.1 = 0
  | some (b, k) => rba s i first false = (b, k - i, true) ∧ i < k := by
 rw [ah_two] at h58 h61
 rw [ah_one, ah_two] at hd
 rw [ah_one] at hf
 unfold oneP rba clsdP
 simp only [ah_two, nx_some (show (46 : UInt8) ≠ 0 by decide), nx_some (show (61 : UInt8) ≠ 0 by decide), nx_some (show (58 : UInt8) ≠ 0 by decide), nx_some (show (110 : UInt8) ≠ 0 by decide), nx_some (show (93 : UInt8) ≠ 0 by decide), ne_eq]
 cases h0 : s[i]? with
 | none => simp
 | some c =>
  rw [h0] at h58 h61 hd hf
  by_cases c91 : c = 91
  ·subst c91
   simp only [beq_self_eq_true, Bool.true_and, beq_eq_false_iff_ne, ne_eq] at h58 h61
   by_cases c46 : s[i + 1]? = some 46
   ·have hn : nxB s i = 46 := by unfold nxB; rw [c46]; rfl
    simp only [c46, hn]
    cases h2 : s[i + 2]? with
    | none =>
     have h3 : s[i + 3]? = none := by rw [List.getElem?_eq_none_iff] at h2 ⊢; omega
     simp [h3]
    | some b =>
     by_cases h3 : s[i + 2 + 1]? = some 46
     ·by_cases h4 : s[i + 2 + 1 + 1]? = some 93
      ·have h3' : s[i + 3]? = some 46 := h3
       have h4' : s[i + 4]? = some 93 := h4
       simp [h3, h4, h3', h4']
       omega
      ·have h4' : ¬ s[i + 4]? = some 93 := h4
       simp [h3, h4, h4']
     ·have h3' : ¬ s[i + 3]? = some 46 := h3
      simp [h3, h3']
   ·simp [c46, h58, h61]
  ·by_cases c92 : c = 92
   ·subst c92
    by_cases h1 : s[i + 1]? = some 110
    ·simp [h1]
    ·simp [h1]
   ·by_cases c93 : c = 93
    ·subst c93
     have : first = true := by simpa using hf
     subst this
     simp
    ·by_cases c45 : c = 45
     ·subst c45
      simp at hd
      cases first with
      | true => simp
      | false => simp at hd; simp [hd]
     ·simp [c91, c92, c93, c45]
theorem rba_end (s : List UInt8) (i : Nat) (h93 : ah s i [93] = false) :
  oneP s i = if (rba s i false true).2.1 = 0 ∨ (rba s i false true).2.2 = false then none else some ((rba s i false true).1, i + (rba s i false true).2.1) := by
 rw [ah_one] at h93
 unfold oneP rba clsdP
 simp only [ah_two, nx_some (show (46 : UInt8) ≠ 0 by decide), nx_some (show (61 : UInt8) ≠ 0 by decide), nx_some (show (58 : UInt8) ≠ 0 by decide), nx_some (show (110 : UInt8) ≠ 0 by decide), nx_some (show (93 : UInt8) ≠ 0 by decide), ne_eq]
 cases h0 : s[i]? with
 | none => simp
 | some c =>
  rw [h0] at h93
  by_cases c91 : c = 91
  ·subst c91
   by_cases c46 : s[i + 1]? = some 46
   ·have hn : nxB s i = 46 := by unfold nxB; rw [c46]; rfl
    simp only [c46, hn]
    cases h2 : s[i + 2]? with
    | none =>
     have h3 : s[i + 3]? = none := by rw [List.getElem?_eq_none_iff] at h2 ⊢; omega
     simp [h3]
    | some b =>
     by_cases h3 : s[i + 2 + 1]? = some 46
     ·by_cases h4 : s[i + 2 + 1 + 1]? = some 93
      ·have h3' : s[i + 3]? = some 46 := h3
       have h4' : s[i + 4]? = some 93 := h4
       simp [h3, h4, h3', h4']
      ·have h4' : ¬ s[i + 4]? = some 93 := h4
       simp [h3, h4, h4']
     ·have h3' : ¬ s[i + 3]? = some 46 := h3
      simp [h3, h3']
   ·by_cases c61 : s[i + 1]? = some 61
    ·have hn : nxB s i = 61 := by unfold nxB; rw [c61]; rfl
     simp only [c61, hn]
     simp
     split <;> simp
    ·by_cases c58 : s[i + 1]? = some 58
     ·have hn : nxB s i = 58 := by unfold nxB; rw [c58]; rfl
      simp [c58, hn]
     ·simp [c46, c61, c58]
  ·by_cases c92 : c = 92
   ·subst c92
    by_cases h1 : s[i + 1]? = some 110
    ·simp [h1]
    ·simp [h1]
   ·have c93 : ¬ c = 93 := by simpa using h93
    simp [c91, c92, c93]
theorem oneP_none {s : List UInt8} {i : Nat} (h : s.length ≤ i) : oneP s i = none := by
 have h0 : s[i]? = none := List.getElem?_eq_none h
 unfold oneP
 simp [ah_two, h0]
theorem part_same (s : List UInt8) (i : Nat) (first : Bool) (hf : first = true ∨ ah s i [93] = false) :
  partR s i first = partP s i first ∨
  (∃ G k, partP s i first = some (G, k) ∧ partR s i first = none ∧ ah s k [93] = false ∧ partP s k false = none) ∨
  (∃ G k, partR s i first = some (G, k) ∧ partP s i first = none ∧ ah s k [93] = false ∧ partR s k false = none) := by
 by_cases h58 : ah s i [91, 58] = true
 ·left; unfold partR partP; rw [if_pos h58, if_pos h58]
 have h58' : ah s i [91, 58] = false := by simpa using h58
 by_cases h61 : ah s i [91, 61] = true
 ·have g61 := h61
  rw [ah_two, Bool.and_eq_true, beq_iff_eq, beq_iff_eq] at g61
  have hn : nxB s i = 61 := by unfold nxB; rw [g61.2]; rfl
  by_cases hc : s[i + 3]? = some 61 ∧ s[i + 4]? = some 93
  ·have h2 : i + 2 < s.length := by
    have := (List.getElem?_eq_some_iff.1 hc.1).1
    omega
   have e2 : s[i + 2]? = some s[i + 2] := List.getElem?_eq_getElem h2
   have hr : rba s i first false = (s[i + 2], 5, false) := by
    unfold rba
    rw [g61.1]
    simp only [hn]
    rw [if_pos (by decide), if_pos ⟨by decide, hc.1, hc.2⟩, e2]
    rfl
   have hP : partP s i first = some (rg s[i + 2].toNat s[i + 2].toNat, i + 5) := by
    have q3 : ah s (i + 2 + 1) [61, 93] = true := by
     rw [ah_two]
     have a1 : s[i + 2 + 1]? = some 61 := hc.1
     have a2 : s[i + 2 + 1 + 1]? = some 93 := hc.2
     rw [a1, a2]; rfl
    unfold partP clsdP
    rw [if_neg h58, if_pos h61, e2]
    simp only
    rw [if_pos q3]
    rfl
   by_cases hk : (ah s (i + 5) [45] && decide (i + 5 + 1 < s.length) && !ah s (i + 5) [45, 93]) = true
   ·right; left
    refine ⟨_, _, hP, ?_, ?_, ?_⟩
    ·unfold partR
     rw [if_neg h58, hr]
     simp only
     rw [if_neg (by decide), if_pos hk, if_pos (by simp)]
    ·rw [Bool.and_eq_true, Bool.and_eq_true, ah_one, beq_iff_eq] at hk
     rw [ah_one, hk.1.1]; rfl
    ·have hk' := hk
     rw [Bool.and_eq_true, Bool.and_eq_true, ah_one, beq_iff_eq] at hk'
     unfold partP
     rw [if_neg (by rw [ah_two, hk'.1.1]; simp), if_neg (by rw [ah_two, hk'.1.1]; simp), if_pos]
     rw [Bool.and_eq_true, Bool.and_eq_true]
     rw [Bool.and_eq_true, Bool.and_eq_true] at hk
     exact ⟨⟨hk.1.1, rfl⟩, hk.2⟩
   ·left
    rw [hP]
    unfold partR
    rw [if_neg h58, hr]
    simp only
    rw [if_neg (by decide), if_neg hk]
  ·left
   have hr : rba s i first false = (0, 0, false) := by
    unfold rba
    rw [g61.1]
    simp only [hn]
    rw [if_pos (by decide), if_neg (fun h => hc ⟨h.2.1, h.2.2⟩)]
   have hP : partP s i first = none := by
    unfold partP clsdP
    rw [if_neg h58, if_pos h61]
    cases h2 : s[i + 2]? with
    | none => rfl
    | some b =>
     simp only
     have q3 : ¬ ah s (i + 2 + 1) [61, 93] = true := by
      rw [ah_two, Bool.and_eq_true, beq_iff_eq, beq_iff_eq]
      exact hc
     rw [if_neg q3]
     rfl
   rw [hP]
   unfold partR
   rw [if_neg h58, hr]
   rfl
 have h61' : ah s i [91, 61] = false := by simpa using h61
 by_cases hd : (ah s i [45] && !first && !ah s i [45, 93]) = true
 ·left
  have hP : partP s i first = none := by
   unfold partP
   rw [if_neg h58, if_neg h61, if_pos hd]
  have hr : rba s i first false = (0, 0, false) := by
   rw [ah_one, ah_two] at hd
   simp only [Bool.and_eq_true, beq_iff_eq, Bool.not_eq_true', Bool.and_eq_false_iff, beq_eq_false_iff_ne, ne_eq] at hd
   obtain ⟨⟨d0, d1⟩, d2⟩ := hd
   unfold rba
   rw [d0]
   simp only
   have : ¬ nxB s i = 93 := by
    rw [nx_some (by decide)]
    rcases d2 with h | h
    ·exact absurd d0 h
    ·exact h
   rw [if_neg (by simp), if_neg (by simp), if_neg (by simp), if_pos (by simp [d1, this])]
  rw [hP]
  unfold partR
  rw [if_neg h58, hr]
  rfl
 have hd' : (ah s i [45] && !first && !ah s i [45, 93]) = false := by simpa using hd
 have A := rba_one s i first h58' h61' hf hd'
 have hP : partP s i first = tailP s i := by
  unfold partP
  rw [if_neg h58, if_neg h61, if_neg hd]
 rw [hP]
 unfold tailP
 cases h1 : oneP s i with
 | none =>
  rw [h1] at A
  left
  unfold partR
  rw [if_neg h58]
  simp only
  rw [if_pos A]
 | some q =>
  obtain ⟨b, k⟩ := q
  rw [h1] at A
  simp only at A
  obtain ⟨hr, hik⟩ := A
  have hne : ¬ k - i = 0 := by omega
  have hki : i + (k - i) = k := by omega
  have hR : partR s i first = if ah s k [45] && decide (k + 1 < s.length) && !ah s k [45, 93] then (if (rba s (k + 1) false true).2.1 = 0 ∨ (rba s (k + 1) false true).2.2 = false ∨ true = false ∨ (rba s (k + 1) false true).1.toNat < b.toNat then none else some (rg b.toNat (rba s (k + 1) false true).1.toNat, k + 1 + (rba s (k + 1) false true).2.1)) else some (rg b.toNat b.toNat, k) := by
   unfold partR
   rw [if_neg h58, hr]
   simp only
   rw [if_neg hne, hki]
  simp only
  by_cases e1 : ah s k [45, 93] = true
  ·left
   rw [hR, if_neg (by rw [e1]; simp), if_pos (by rw [e1]; rfl)]
  by_cases e2 : ah s k [45] = true
  ·have e1' : ah s k [45, 93] = false := by simpa using e1
   rw [if_neg (show ¬ (ah s k [45, 93] || !ah s k [45]) = true by rw [e1', e2]; simp)]
   have s45 : s[k]? = some 45 := by rw [ah_one, beq_iff_eq] at e2; exact e2
   have n93 : ah s (k + 1) [93] = false := by
    rw [ah_two, s45] at e1'
    rw [ah_one]
    simpa using e1'
   by_cases e3 : k + 1 < s.length
   ·left
    rw [hR, if_pos (by rw [e1', e2, decide_eq_true e3]; rfl), rba_end s (k + 1) n93]
    generalize rba s (k + 1) false true = x
    obtain ⟨z, n, may⟩ := x
    simp only
    by_cases c1 : n = 0 ∨ may = false
    ·rw [if_pos c1, if_pos]
     rcases c1 with c | c
     ·exact .inl c
     ·exact .inr (.inl c)
    ·rw [if_neg c1]
     simp only
     by_cases c2 : z.toNat < b.toNat
     ·rw [if_pos c2, if_pos (.inr (.inr (.inr c2)))]
     ·rw [if_neg c2, if_neg]
      rintro (c | c | c | c)
      ·exact c1 (.inl c)
      ·exact c1 (.inr c)
      ·cases c
      ·exact c2 c
   ·right; right
    refine ⟨rg b.toNat b.toNat, k, ?_, ?_, ?_, ?_⟩
    ·rw [hR, if_neg]
     rw [decide_eq_false e3]
     simp
    ·rw [oneP_none (by omega)]
    ·rw [ah_one, s45]; rfl
    ·have : rba s k false false = (0, 0, false) := by
      unfold rba
      rw [s45]
      simp only
      have : ¬ nxB s k = 93 := by
       rw [nx_some (by decide)]
       rw [ah_one] at n93
       simpa using n93
      rw [if_neg (by simp), if_neg (by simp), if_neg (by simp), if_pos (by simp [this])]
     unfold partR
     rw [if_neg (by rw [ah_two, s45]; simp), this]
     rfl
  ·left
   have e2' : ah s k [45] = false := by simpa using e2
   rw [hR, if_neg (by rw [e2']; simp), if_pos (by rw [e2']; simp)]
theorem rest_same (s : List UInt8) : ∀ (f i : Nat) (F : Nat → Bool), restR s f i F = restP s f i F
 | 0, _, _ => rfl
 | f + 1, i, F => by
  rw [restR, restP]
  by_cases h : ah s i [93] = true
  ·rw [if_pos h, if_pos h]
  rw [if_neg h, if_neg h]
  have h' : ah s i [93] = false := by simpa using h
  rcases part_same s i false (.inr h') with e | ⟨G, k, e1, e2, e3, e4⟩ | ⟨G, k, e1, e2, e3, e4⟩
  ·rw [e]
   cases partP s i false with
   | none => rfl
   | some q => exact rest_same s f q.2 _
  ·rw [e1, e2]
   simp only
   cases f with
   | zero => rfl
   | succ f => rw [restP, if_neg (by rw [e3]; decide), e4]
  ·rw [e1, e2]
   simp only
   cases f with
   | zero => rfl
   | succ f => rw [restR, if_neg (by rw [e3]; decide), e4]
def restF (s : List UInt8) : Nat → Nat → (Nat → Bool) → Bool → Option ((Nat → Bool) × Nat)
 | 0, _, _, _ => none
 | f + 1, i, F, first => if ah s i [93] && !first then some (F, i + 1) else
  match partR s i first with
  | none => none
  | some (G, k) => restF s f k (fun j => F j || G j) false
theorem restF_false (s : List UInt8) : ∀ (f i : Nat) (F : Nat → Bool), restF s f i F false = restR s f i F
 | 0, _, _ => rfl
 | f + 1, i, F => by
  rw [restF, restR]
  simp only [Bool.not_false, Bool.and_true]
  split
  ·rfl
  ·cases partR s i false with
   | none => rfl
   | some q => exact restF_false s f q.2 _
def brkR (s : List UInt8) : Option ((Nat → Bool) × Nat) :=
 if !ah s 0 [91] then none else
 match restF s (s.length + 2) (sk s 1 [94]) (fun _ => false) true with
 | none => none
 | some (F, m) => if noneIn (if ah s 1 [94] then (fun j => !F j) else F) then none else some ((if ah s 1 [94] then (fun j => !F j) else F), m)
theorem brk_same (s : List UInt8) : brkR s = brkP s := by
 unfold brkR brkP
 by_cases h0 : (!ah s 0 [91]) = true
 ·rw [if_pos h0, if_pos h0]
 rw [if_neg h0, if_neg h0, restF]
 simp only [Bool.not_true, Bool.and_false, Bool.false_eq_true, if_false, Bool.false_or]
 have key : ∀ k (G : Nat → Bool), restF s (s.length + 1) k G false = restP s (s.length + 1) k G := fun k G => by rw [restF_false, rest_same]
 rcases part_same s (sk s 1 [94]) true (.inl rfl) with e | ⟨G, k, e1, e2, e3, e4⟩ | ⟨G, k, e1, e2, e3, e4⟩
 ·rw [e]
  cases partP s (sk s 1 [94]) true with
  | none => rfl
  | some q =>
   obtain ⟨G, k⟩ := q
   simp only
   rw [key]
   try rfl
 ·rw [e1, e2]
  simp only
  rw [restP, if_neg (by rw [e3]; decide), e4]
 ·rw [e1, e2]
  simp only
  rw [key, ← rest_same, restR, if_neg (by rw [e3]; decide), e4]
end Go.Proofs.YtkmfncajdkdenaaGreatDoor
