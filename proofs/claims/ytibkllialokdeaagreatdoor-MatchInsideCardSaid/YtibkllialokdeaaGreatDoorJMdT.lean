/- match: Whole, Ends, Longest as the laws call them, at whatever nodes. -/
import Derived.Test.YtibkllialokdeaaGreatDoorJMdM
import Derived.Test.YtibkllialokdeaaGreatDoorJMbS
import Derived.Laws.Cover3
import Derived.Deep.CutBlock
set_option linter.unusedVariables false
set_option linter.unusedSimpArgs false
set_option maxRecDepth 100000
set_option maxHeartbeats 40000000
namespace Go.Proofs.YtibkllialokdeaaGreatDoor
open Go.RowKit Go.Lib
theorem kcnt_ref {xs : List Nd} : ∀ k, kcnt xs 8 k = 0 → ¬ anyRef xs k
 | 0, _, ⟨j, x, h, _⟩ => by omega
 | k + 1, h, ⟨j, x, hj, hx, h8⟩ => by
  rw [kcnt] at h
  by_cases e : j = k
  ·subst e
   rw [hx] at h
   simp [h8] at h
  ·exact kcnt_ref k (by omega) ⟨j, x, by omega, hx, h8⟩
theorem bd_len {xs : List Nd} {s : List UInt8} (h : bdR xs s = true) : xs.length ≤ 24 ∧ s.length ≤ 9 := by
 unfold bdR at h
 simp only [Bool.and_eq_true, decide_eq_true_iff] at h
 exact h.1
theorem bd_ref {xs : List Nd} {s : List UInt8} {t : T} (h : bdR xs s = true) (hp : IsPat xs t) : 0 < t.refs → s.length ≤ 6 ∧ xs.length ≤ 24 := fun hr => by
 have h3 := (tree_nodes t 0 hp.1 hp.2.1).2
 rw [Nat.zero_add, hp.2.2.1] at h3
 have ha := h3.2 (.inr hr)
 unfold bdR at h
 simp only [Bool.and_eq_true, Bool.or_eq_true, decide_eq_true_iff] at h
 rcases h.2 with q | q
 ·exact absurd ha (kcnt_ref _ q)
 ·exact ⟨q.2, h.1.1⟩
def IL (w : World) (P : Option Addr) (L : List Nat) : Prop := ∀ (k x : Nat), L[k]? = some x → ∃ g, P = some ⟨g, 0, none⟩ ∧ w.cell? ⟨g, k, none⟩ = some (.int .i64 (x : Int))
theorem IL.below {w w' : World} {P : Option Addr} {L : List Nat} (h : IL w P L) (hB : Below w.heap.size w w') : IL w' P L := fun k x hx => by
 obtain ⟨g, e, hc⟩ := h k x hx
 exact ⟨g, e, by rw [hB.cell (p := ⟨g, k, none⟩) (cell_lt hc)]; exact hc⟩
theorem il_of {w : World} {B : Nat} {v : Value} {L : List Nat} (ho : w.ownsRow B 3 1 v L.length (ivals L)) : ∃ P cap, v = .slice P L.length cap ∧ IL w P L := by
 rcases ho.2 with ⟨e, h0⟩ | ⟨g, cap, cur, e, _, hg, h1, h2, _, ht⟩
 ·refine ⟨none, 0, by rw [e, h0], fun k x hx => ?_⟩
  have := (List.getElem?_eq_some_iff.1 hx).1
  omega
 ·refine ⟨some ⟨g, 0, none⟩, cap, e, fun k x hx => ⟨g, rfl, ?_⟩⟩
  have hk := (List.getElem?_eq_some_iff.1 hx).1
  have h3 : (cur.toList.take (L.length * 1))[k]? = (ivals L)[k]? := by rw [ht]
  rw [List.getElem?_take_of_lt (by omega)] at h3
  have h4 : (ivals L)[k]? = some (.int .i64 (x : Int)) := by unfold ivals; rw [List.getElem?_map, hx]; rfl
  rw [h4, Array.getElem?_toList] at h3
  simp [World.cell?, hg, h3]
section
variable (p : Option Addr) (n cap : Nat) (xs : List Nd) (s : List UInt8) (w : World)
def EndsK (i : Int) (L : List Nat) : Prop := ∀ W, Below w.heap.size w W → Calls Tryz.prog 21 #[.slice p n cap, .string ⟨s.toArray⟩, .int .i64 i] W fun e w' => (∃ P c, e = .returned (.slice P L.length c) ∧ IL w' P L) ∧ Below W.heap.size W w'
def WholeK (i : Int) (Z : Nat → Bool) : Prop := ∀ (j : Nat), j ≤ s.length → ∀ W, Below w.heap.size w W → Calls Tryz.prog 11 #[.slice p n cap, .string ⟨s.toArray⟩, .int .i64 i, .int .i64 j] W fun e w' => (∃ c : Cp, e = .returned (.tuple #[capV c, .bool (Z j)])) ∧ Below W.heap.size W w'
def LongK (i : Int) (C : Cp) (R : Bool) : Prop := ∀ W, Below w.heap.size w W → Calls Tryz.prog 18 #[.slice p n cap, .string ⟨s.toArray⟩, .int .i64 i] W fun e w' => e = .returned (.tuple #[capV C, .bool R]) ∧ Below W.heap.size W w'
variable {p n xs s w}
theorem each_calls (k : Nat) (hN : Nodes w p n xs) (hb : bdR xs s = true) (hk : k ≤ s.length) (hT : TabAt 0 Lib.deBruijn64tab w) (h0 : 0 < w.heap.size) :
  ∃ L Z A C R, EachF s.length k L Z A C R ∧ EndsK p n cap s w k L ∧ WholeK p n cap s w k Z ∧ LongK p n cap s w k C R := by
 have hl := bd_len hb
 by_cases hp : ∃ t, IsPat xs t
 ·obtain ⟨t, hp⟩ := hp
  have hn : 1 ≤ n := by
   have h3 := hp.2.2.1
   have := t.size_pos
   have := hN.len
   omega
  obtain ⟨b, o, rfl⟩ := hN.ptr hn
  have hx := hN.at' hn b o rfl
  obtain rfl := hN.len
  refine ⟨_, _, _, _, _, each_pat s t k hk, fun W hB => ?_, fun j hj W hB => ?_, fun W hB => ?_⟩
  ·refine (Ends_c b o cap s xs t hp hN.fits (by omega) (bd_ref hb hp) k hk W (hx.below hB hx.lt) (tab_below hT hB h0) (Nat.lt_of_lt_of_le h0 hB.size)).mono fun e w' ⟨val, he, ho, h⟩ => ⟨?_, h⟩
   obtain ⟨P, c, rfl, hi⟩ := il_of ho
   exact ⟨P, c, he, hi⟩
  ·exact (Whole_c b o cap s xs t hp hN.fits (by omega) (bd_ref hb hp) k j hk hj W (hx.below hB hx.lt) (tab_below hT hB h0) (Nat.lt_of_lt_of_le h0 hB.size)).mono fun e w' ⟨he, h⟩ => ⟨⟨_, he⟩, h⟩
  ·exact Longest_c b o cap s xs t hp hN.fits (by omega) (bd_ref hb hp) k hk W (hx.below hB hx.lt) (tab_below hT hB h0) (Nat.lt_of_lt_of_le h0 hB.size)
 ·have hM : ∀ W, Below w.heap.size w W → Calls Tryz.prog 30 #[.slice p n cap] W fun e w' => e = .returned (.bool false) ∧ Below W.heap.size W w' := fun W hB => may_n p n cap xs false ⟨fun h => (by cases h), fun h => absurd h hp⟩ W (hN.below hB)
  refine ⟨[], fun _ => false, fun _ => 0, noC, false, each_none _ _, fun W hB => ?_, fun j hj W hB => ?_, fun W hB => ?_⟩
  ·exact (Ends_bad (.slice p n cap) false s k (fun h => (by cases h)) W (fun W' hB' => hM W' (hB.trans (hB'.mono hB.size)))).mono fun e w' ⟨he, h⟩ => ⟨⟨none, 0, he, fun k x hx => by simp at hx⟩, h⟩
  ·exact (Whole_bad (.slice p n cap) false s k j (fun h => (by cases h)) W (fun W' hB' => hM W' (hB.trans (hB'.mono hB.size)))).mono fun e w' ⟨he, h⟩ => ⟨⟨_, he⟩, h⟩
  ·exact Longest_bad (.slice p n cap) false s k (fun h => (by cases h)) W (fun W' hB' => hM W' (hB.trans (hB'.mono hB.size)))
theorem in_calls (i : Int) (hN : Nodes w p n xs) (hb : bdR xs s = true) (hT : TabAt 0 Lib.deBruijn64tab w) (h0 : 0 < w.heap.size) :
  ∃ C R, LongK p n cap s w i C R ∧ (R = false → C = noC) ∧ (R = true → 0 ≤ i ∧ ∃ G : Nat, G ≤ 24 ∧ InF s.length i.toNat G C ∧ ∀ W, Below w.heap.size w W → Calls Tryz.prog 27 #[.slice p n cap] W fun e w' => e = .returned (.int .i64 (G : Int)) ∧ Below W.heap.size W w') := by
 have hl := bd_len hb
 by_cases hp : ∃ t, IsPat xs t
 ·obtain ⟨t, hp⟩ := hp
  by_cases hi : 0 ≤ i ∧ i ≤ (s.length : Int)
  ·obtain ⟨k, rfl⟩ : ∃ k : Nat, i = k := ⟨i.toNat, by omega⟩
   have hk : k ≤ s.length := by omega
   have hn : 1 ≤ n := by
    have h3 := hp.2.2.1
    have := t.size_pos
    have := hN.len
    omega
   obtain ⟨b, o, rfl⟩ := hN.ptr hn
   have hx := hN.at' hn b o rfl
   obtain rfl := hN.len
   refine ⟨_, _, fun W hB => Longest_c b o cap s xs t hp hN.fits (by omega) (bd_ref hb hp) k hk W (hx.below hB hx.lt) (tab_below hT hB h0) (Nat.lt_of_lt_of_le h0 hB.size), fun h => ?_, fun h => ⟨by omega, gcnt xs xs.length, ?_, in_pat s xs t hp k hk h, fun W hB => groups_in b o xs.length cap xs rfl hn (by omega) hN.fits ⟨t, hp⟩ W (hx.below hB hx.lt)⟩⟩
   ·unfold lgC
    cases e : lgR s t k with
    | none => rfl
    | some m => rw [e] at h; cases h
   ·have := gcnt_le xs xs.length; omega
  ·have hM : ∀ W, Below w.heap.size w W → Calls Tryz.prog 30 #[.slice p n cap] W fun e w' => e = .returned (.bool true) ∧ Below W.heap.size W w' := fun W hB => may_n p n cap xs true ⟨fun h => ⟨t, hp⟩, fun h => rfl⟩ W (hN.below hB)
   exact ⟨noC, false, fun W hB => Longest_bad (.slice p n cap) true s i (fun _ => hi) W (fun W' hB' => hM W' (hB.trans (hB'.mono hB.size))), fun _ => rfl, fun h => (by cases h)⟩
 ·have hM : ∀ W, Below w.heap.size w W → Calls Tryz.prog 30 #[.slice p n cap] W fun e w' => e = .returned (.bool false) ∧ Below W.heap.size W w' := fun W hB => may_n p n cap xs false ⟨fun h => (by cases h), fun h => absurd h hp⟩ W (hN.below hB)
  exact ⟨noC, false, fun W hB => Longest_bad (.slice p n cap) false s i (fun h => (by cases h)) W (fun W' hB' => hM W' (hB.trans (hB'.mono hB.size))), fun _ => rfl, fun h => (by cases h)⟩
end
end Go.Proofs.YtibkllialokdeaaGreatDoor
namespace Go.Proofs.YtibkllialokdeaaGreatDoor
open Go.RowKit Go.Lib Go.Proofs.YtibkllialokdeaaGreatDoor.Fl
theorem tku {P : Program} {ops : Array Oper} {Q : Exit → Act → World → Prop} {md : Region.Mode} {S : World → Prop} {i : Nat} {oi : Oper} {fuel : Nat} {listed : Array Bool} {a : Act} {w : World} (hi : ops[i]? = some oi)
  (h : wpAnyH P md ops Q S fuel (listed.setIfInBounds i true) (a.put oi.dst undef) w)
  (hs : Region.noSelect ops = true := by kernel_rfl) (hf : Region.free md ops listed i = true := by kernel_rfl) (hr : (Region.ready md ops listed).contains i = true := by kernel_rfl)
  (hW : Region.wanted oi (yielded ops a.tmps) = false := by kernel_rfl) (hQ : ∀ c a w, Q (.panic c) (a.put oi.dst undef) w → Q (.panic c) a w := by exact fun _ _ _ h => h) (hS : S w := by assumption) : wpAnyH P md ops Q S (fuel + 1) listed a w :=
 wpAnyH_take hi hs hf hr hQ (Or.inr ⟨hW, rfl⟩) hS h
theorem hull_sp {o o' : Option (Nat × Nat)} {i m a b : Nat} (ho : o = some (i, m)) (ho' : o' = some (a, b)) (h1 : i ≤ a) (h2 : a ≤ b) (h3 : b ≤ m) (h4 : m ≤ 999999999) (w : World) :
  Calls Tryz.prog 26 #[spV o, spV o'] w fun e w' => ∃ v, e = .returned v ∧ ((∀ (t : TypeId) (W : World), (binOp .neq t v (spV o)).run Tryz.prog W = .ok (.bool false) W) ∧ ∀ (t : TypeId) (x y : Operand) (W : World), (eqGuard .neq t x y v (spV o)).run Tryz.prog W = .ok () W) ∧ w' = w := by
 subst ho ho'
 have hv : ∀ a : Nat, a ≤ 999999999 → val (floatOfInt .f64 (a : Int)) = some (a : Int) := fun a h => val_floatOfInt (by have : (2 : Nat) ^ 53 = 9007199254740992 := rfl; omega)
 have s1 := sp_of (hv i (by omega)) (hv m h4) (by omega) (by omega) (by omega)
 have s2 := sp_of (hv a (by omega)) (hv b (by omega)) (by omega) (by omega) (by omega)
 refine (hull_both _ _ _ _ _ _ _ _ w s1 s2).mono ?_
 rintro e w' ⟨p, q, rfl, hp, hq, rfl⟩
 refine ⟨_, rfl, ⟨fun t W => ?_, fun t x y W => rfl⟩, rfl⟩
 have e1 : (min (i : Int) (a : Int)) = i := by omega
 have e2 : (max (m : Int) (b : Int)) = m := by omega
 rw [e1] at hp
 rw [e2] at hq
 have o1 := order_val hp (hv i (by omega))
 have o2 := order_val hq (hv m h4)
 rw [compare_self] at o1 o2
 show (binOp .neq t (.complex .f64 p q) (.complex .f64 (floatOfInt .f64 (i : Int)) (floatOfInt .f64 (m : Int)))).run Tryz.prog W = _
 rw [run_neq_complex]
 rw [show FloatKind.f64.format.order p (floatOfInt .f64 (i : Int)) = _ from o1, show FloatKind.f64.format.order q (floatOfInt .f64 (m : Int)) = _ from o2]
 rfl
theorem noC_eq (W : World) : (binOp .eql 27 (.agg #[spV (noC 0), spV (noC 1), spV (noC 2), spV (noC 3), spV (noC 4), spV (noC 5), spV (noC 6), spV (noC 7), spV (noC 8), spV (noC 9)]) (capV fun x => none)).run Tryz.prog W = .ok (.bool true) W := by kernel_rfl
theorem noC_gd (x y : Operand) (W : World) : (eqGuard .eql 27 x y (.agg #[spV (noC 0), spV (noC 1), spV (noC 2), spV (noC 3), spV (noC 4), spV (noC 5), spV (noC 6), spV (noC 7), spV (noC 8), spV (noC 9)]) (capV fun x => none)).run Tryz.prog W = .ok () W := by kernel_rfl
end Go.Proofs.YtibkllialokdeaaGreatDoor
namespace Go.Proofs.YtibkllialokdeaaGreatDoor
open Go.RowKit Go.Lib Go.Maps Go.WideMaps
theorem inside_go (p : Option Addr) (n cap : Nat) (xs : List Nd) (s : List UInt8) (i : Int) (w : World) (hN : Nodes w p n xs) (hl : s.length ≤ 9) (hbd : bdR xs s = true) (C : Cp) (R : Bool)
  (hLg : LongK p n cap s w i C R) (hF : R = false → C = noC) (hT : R = true → 0 ≤ i ∧ ∃ G : Nat, G ≤ 24 ∧ InF s.length i.toNat G C ∧ ∀ W, Below w.heap.size w W → Calls Tryz.prog 27 #[.slice p n cap] W fun e w' => e = .returned (.int .i64 (G : Int)) ∧ Below W.heap.size W w')
  (hsh : ∀ W, Below w.heap.size w W → Calls Tryz.prog 10 #[] W fun e w' => e = .returned (.bool true) ∧ Below W.heap.size W w') :
  Calls Tryz.prog 5 #[.slice p n cap, .string ⟨s.toArray⟩, .int .i64 i] w fun e w' => e = .returned (.bool true) ∧ Below w.heap.size w w' := by
 have HBD : Hid (Calls Tryz.prog 9 #[.slice p n cap, .string ⟨s.toArray⟩] w fun e w' => e = .returned (.bool true) ∧ w' = w) := Lib.hid (by have := bounded_c p n cap xs s w hN; rw [hbd] at this; exact this)
 have HSH := Lib.hid hsh
 have HLG := Lib.hid hLg
 have HN := Lib.hid (fun w => mnone_c w)
 have HEQ := Lib.hid (And.intro noC_eq noC_gd)
 have HF := Lib.hid hF
 have HT := Lib.hid hT
 clear hN hbd hsh hLg hF hT
 go_enter Tryz.func5, Tryz.ntmps5
 go_wp2_with fail
 refine HBD.out.mono ?_
 rintro e w0 ⟨rfl, hw0⟩
 obtain rfl := hw0
 go_wp2_with fail
 refine (HSH.out _ (Below.refl _ _)).mono ?_
 rintro e w1 ⟨rfl, hB1⟩
 have HB1 := Lib.hid hB1
 clear hB1
 go_wp2_with fail
 refine (HLG.out _ HB1.out).mono ?_
 rintro e w2 ⟨rfl, hB2⟩
 have HB2 := Lib.hid (HB1.out.trans (hB2.mono HB1.out.size))
 have lw2 := HB2.out.size
 have hb3 := capBlk w2 C
 have hB3 := HB2.out.alloc lw2 (.cells (cH C) 27)
 have HB3 := Lib.hid (And.intro hb3 hB3)
 clear hB2 hb3 hB3
 unfold capV
 cases R with
 | false =>
  obtain rfl := HF.out rfl
  go_wp2_with fail
  refine wp_region_noPanic ?_
  refine wp_region_held_drew (S := fun w' => Blk w' w2.heap.size (cH noC) 27 ∧ Below w0.heap.size w0 w') (by kernel_rfl) ?_ (fun hHeld => ?_)
  ·(try dsimp only); exact ⟨HB3.out.1.drew, HB3.out.2.drew⟩
  refine tk (i := 0) (v := ?_) rfl ?_ ?_; rotate_left
  ·(intro wq hSw; (try dsimp only at hSw); obtain ⟨sb, hBs⟩ := hSw; obtain ⟨e0, e1, e2, e3, e4, e5, e6, e7, e8, e9⟩ := capBlk.ten sb; go_simp); (try with_reducible rfl)
  (try simp only [Act.put, tkS])
  refine wpAnyH_ready (rs := [1]) (by kernel_rfl) (by simp) ?_
  refine AllReadyH.cons rfl (fun K hK => ?_) ?_
  rotate_left
  ·exact AllReadyH.nil
  go_simp
  have hHn := hHeld
  obtain ⟨sb, hBs⟩ := hHn
  refine (HN.out _).mono ?_
  rintro e wn ⟨rfl, hBn⟩
  refine hK.out _ _ ?_ (fun hHeld => ?_)
  ·(try dsimp only); exact ⟨sb.below hBn sb.lt, hBs.trans (hBn.mono hBs.size)⟩
  clear hK K
  (try simp only [Act.put, tkS])
  refine tk (i := 2) (v := ?_) rfl ?_ ?_; rotate_left
  ·(intro wq hSw; (try dsimp only at hSw); obtain ⟨sb, hBs⟩ := hSw; have heq := HEQ.out.1; have hgd := HEQ.out.2; go_simp); (try with_reducible rfl)
  (try simp only [Act.put, tkS])
  refine tk (i := 3) (v := ?_) rfl ?_ ?_; rotate_left
  ·(intro wq hSw; (try dsimp only at hSw); obtain ⟨sb, hBs⟩ := hSw; go_simp); (try with_reducible rfl)
  (try simp only [Act.put, tkS])
  refine wpAnyH_done (by kernel_rfl) ?_ _
  refine NoPanic.normal ?_
  go_wp2
  go_ret
  exact ⟨rfl, hHeld.2⟩
 | true =>
  obtain ⟨hi0, G, hG, hI, hGr⟩ := HT.out rfl
  obtain ⟨m, hC0, hm1, hm2, hin⟩ := hI.whole
  have hok : ∀ g a b, C g = some (a, b) → a ≤ b ∧ b ≤ 999999999 := fun g a b e => by
   by_cases h0 : g = 0
   ·subst h0; rw [hC0] at e; cases e; omega
   ·rcases hin g (by omega) with q | ⟨x, y, q, q1, q2, q3⟩
    ·rw [q] at e; cases e
    ·rw [q] at e; cases e; omega
  have HMY := Lib.hid (fun g w => may_sp (C g) (hok g) w)
  have HFR : Hid (∀ w, Calls Tryz.prog 24 #[spV (C 0)] w fun e w' => e = .returned (.int .i64 i) ∧ w' = w) := Lib.hid (fun w => by
   have := from_sp (C 0) (hok 0) w
   rw [show frO (C 0) = i by rw [hC0]; show ((i.toNat : Nat) : Int) = i; omega] at this; exact this)
  have HTO : Hid (∀ w, Calls Tryz.prog 25 #[spV (C 0)] w fun e w' => e = .returned (.int .i64 (m : Int)) ∧ w' = w) := Lib.hid (fun w => by
   have := to_sp (C 0) (hok 0) w
   rw [show toO (C 0) = (m : Int) by rw [hC0]; rfl] at this; exact this)
  have HMY0 : Hid (∀ w, Calls Tryz.prog 23 #[spV (C 0)] w fun e w' => e = .returned (.bool true) ∧ w' = w) := Lib.hid (fun w => by
   have := HMY.out 0 w
   rw [hC0] at this ⊢; exact this)
  have HGR := Lib.hid hGr
  have HIN := Lib.hid hin
  have HMO := Lib.hid hI.more
  have HC0 := Lib.hid hC0
  have HOK := Lib.hid hok
  have hmd : decide (s.length < m) = false := decide_eq_false (by omega)
  have hmn : ¬ s.length < m := by omega
  clear hGr hin hI hC0 hok hi0
  obtain ⟨k0, k1, k2, k3, k4, k5, k6, k7, k8, k9⟩ := capBlk.ten HB3.out.1
  go_wp2_with fail
  refine (HMY0.out _).mono ?_
  rintro e wa ⟨rfl, hwa⟩
  obtain rfl := hwa
  go_wp2_with fail
  refine (HFR.out _).mono ?_
  rintro e wa ⟨rfl, hwa⟩
  obtain rfl := hwa
  go_wp2_with fail
  refine (HTO.out _).mono ?_
  rintro e wa ⟨rfl, hwa⟩
  obtain rfl := hwa
  clear k0 k1 k2 k3 k4 k5 k6 k7 k8 k9 HMY0 HFR HTO
  go_wp2
  go_loopw [6, 9] (fun rv nv wr => ∃ k : Nat, 1 ≤ k ∧ k ≤ 10 ∧ nv = .int .i64 (k : Int) ∧ Blk wr w2.heap.size (cH C) 27 ∧ Below w0.heap.size w0 wr) (fun _ nv _ => 10 - (RowKit.intOf nv).toNat)
  case atStart => exact ⟨1, by omega, by omega, rfl, HB3.out.1, HB3.out.2⟩
  case round =>
   obtain ⟨k, hk1, hk2, rfl, hbk, hBk⟩ := hrel
   by_cases hlt : k < 10
   ·have hli : (k : Int) < 10 := by omega
    have HNK := Lib.hid (HIN.out k hk1)
    have HMK := Lib.hid (HMO.out k hk1)
    have HSK := Lib.hid (And.intro hbk hBk)
    clear hbk hBk
    cases hck : C k with
    | none =>
     have HMK0 : Hid (∀ w, Calls Tryz.prog 23 #[spV (C k)] w fun e w' => e = .returned (.bool false) ∧ w' = w) := Lib.hid (fun w => by
      have := HMY.out k w
      rw [hck] at this ⊢; exact this)
     clear hck
     by_cases hgk : G < k
     ·have hgi : (G : Int) < (k : Int) := by omega
      go_wp2_with fail
      refine wp_region_noPanic ?_
      refine wp_region_held_drew (S := fun w' => Blk w' w2.heap.size (cH C) 27 ∧ Below w0.heap.size w0 w') (by kernel_rfl) ?_ (fun hHeld => ?_)
      ·(try dsimp only); exact ⟨HSK.out.1.drew, HSK.out.2.drew⟩
      refine tk (i := 0) (v := ?_) rfl ?_ ?_; rotate_left
      ·(intro wq hSw; (try dsimp only at hSw); obtain ⟨sb, hBs⟩ := hSw; have ck := capBlk.at sb k hlt; have c0 := capBlk.at sb 0 (by decide); go_simp); (try with_reducible rfl)
      (try simp only [Act.put, tkS])
      refine tk (i := 1) (v := ?_) rfl ?_ ?_; rotate_left
      ·(intro wq hSw; (try dsimp only at hSw); obtain ⟨sb, hBs⟩ := hSw; have ck := capBlk.at sb k hlt; have c0 := capBlk.at sb 0 (by decide); go_simp); (try with_reducible rfl)
      (try simp only [Act.put, tkS])
      refine tk (i := 2) (v := ?_) rfl ?_ ?_; rotate_left
      ·(intro wq hSw; (try dsimp only at hSw); obtain ⟨sb, hBs⟩ := hSw; have ck := capBlk.at sb k hlt; have c0 := capBlk.at sb 0 (by decide); go_simp); (try with_reducible rfl)
      (try simp only [Act.put, tkS])
      refine wpAnyH_ready (rs := [3]) (by kernel_rfl) (by simp) ?_
      refine AllReadyH.cons rfl (fun K hK => ?_) ?_
      rotate_left
      ·exact AllReadyH.nil
      go_simp
      have hHn := hHeld
      obtain ⟨sb, hBs⟩ := hHn
      refine (HMK0.out _).mono ?_
      rintro e wn ⟨rfl, hwn⟩
      obtain rfl := hwn
      refine hK.out _ _ ?_ (fun hHeld => ?_)
      ·(try dsimp only); exact hHeld
      clear hK K
      (try simp only [Act.put, tkS])
      refine tk (i := 4) (v := ?_) rfl ?_ ?_; rotate_left
      ·(intro wq hSw; (try dsimp only at hSw); obtain ⟨sb, hBs⟩ := hSw; have ck := capBlk.at sb k hlt; have c0 := capBlk.at sb 0 (by decide); go_simp); (try with_reducible rfl)
      (try simp only [Act.put, tkS])
      refine tku (i := 5) rfl ?_
      (try simp only [Act.put, tkS])
      refine tku (i := 6) rfl ?_
      (try simp only [Act.put, tkS])
      refine tku (i := 7) rfl ?_
      (try simp only [Act.put, tkS])
      refine tku (i := 8) rfl ?_
      (try simp only [Act.put, tkS])
      refine tku (i := 9) rfl ?_
      (try simp only [Act.put, tkS])
      refine tku (i := 10) rfl ?_
      (try simp only [Act.put, tkS])
      refine tku (i := 11) rfl ?_
      (try simp only [Act.put, tkS])
      refine tku (i := 12) rfl ?_
      (try simp only [Act.put, tkS])
      refine tku (i := 13) rfl ?_
      (try simp only [Act.put, tkS])
      refine tk (i := 14) (v := ?_) rfl ?_ ?_; rotate_left
      ·(intro wq hSw; (try dsimp only at hSw); obtain ⟨sb, hBs⟩ := hSw; have ck := capBlk.at sb k hlt; have c0 := capBlk.at sb 0 (by decide); go_simp); (try with_reducible rfl)
      (try simp only [Act.put, tkS])
      refine tk (i := 15) (v := ?_) rfl ?_ ?_; rotate_left
      ·(intro wq hSw; (try dsimp only at hSw); obtain ⟨sb, hBs⟩ := hSw; have ck := capBlk.at sb k hlt; have c0 := capBlk.at sb 0 (by decide); go_simp); (try with_reducible rfl)
      (try simp only [Act.put, tkS])
      refine tk (i := 16) (v := ?_) rfl ?_ ?_; rotate_left
      ·(intro wq hSw; (try dsimp only at hSw); obtain ⟨sb, hBs⟩ := hSw; have ck := capBlk.at sb k hlt; have c0 := capBlk.at sb 0 (by decide); go_simp); (try with_reducible rfl)
      (try simp only [Act.put, tkS])
      refine tk (i := 17) (v := ?_) rfl ?_ ?_; rotate_left
      ·(intro wq hSw; (try dsimp only at hSw); obtain ⟨sb, hBs⟩ := hSw; have ck := capBlk.at sb k hlt; have c0 := capBlk.at sb 0 (by decide); go_simp); (try with_reducible rfl)
      (try simp only [Act.put, tkS])
      refine wpAnyH_ready (rs := [18]) (by kernel_rfl) (by simp) ?_
      refine AllReadyH.cons rfl (fun K hK => ?_) ?_
      rotate_left
      ·exact AllReadyH.nil
      go_simp
      have hHn := hHeld
      obtain ⟨sb, hBs⟩ := hHn
      refine (HGR.out _ hBs).mono ?_
      rintro e wn ⟨rfl, hBn⟩
      refine hK.out _ _ ?_ (fun hHeld => ?_)
      ·(try dsimp only); exact ⟨sb.below hBn sb.lt, hBs.trans (hBn.mono hBs.size)⟩
      clear hK K
      (try simp only [Act.put, tkS])
      refine tk (i := 19) (v := ?_) rfl ?_ ?_; rotate_left
      ·(intro wq hSw; (try dsimp only at hSw); obtain ⟨sb, hBs⟩ := hSw; have ck := capBlk.at sb k hlt; have c0 := capBlk.at sb 0 (by decide); go_simp); (try with_reducible rfl)
      (try simp only [Act.put, tkS])
      refine tk (i := 20) (v := ?_) rfl ?_ ?_; rotate_left
      ·(intro wq hSw; (try dsimp only at hSw); obtain ⟨sb, hBs⟩ := hSw; have ck := capBlk.at sb k hlt; have c0 := capBlk.at sb 0 (by decide); go_simp); (try with_reducible rfl)
      (try simp only [Act.put, tkS])
      refine tk (i := 21) (v := ?_) rfl ?_ ?_; rotate_left
      ·(intro wq hSw; (try dsimp only at hSw); obtain ⟨sb, hBs⟩ := hSw; have ck := capBlk.at sb k hlt; have c0 := capBlk.at sb 0 (by decide); go_simp); (try with_reducible rfl)
      (try simp only [Act.put, tkS])
      refine tk (i := 22) (v := ?_) rfl ?_ ?_; rotate_left
      ·(intro wq hSw; (try dsimp only at hSw); obtain ⟨sb, hBs⟩ := hSw; have ck := capBlk.at sb k hlt; have c0 := capBlk.at sb 0 (by decide); go_simp); (try with_reducible rfl)
      (try simp only [Act.put, tkS])
      refine tk (i := 23) (v := ?_) rfl ?_ ?_; rotate_left
      ·(intro wq hSw; (try dsimp only at hSw); obtain ⟨sb, hBs⟩ := hSw; have ck := capBlk.at sb k hlt; have c0 := capBlk.at sb 0 (by decide); go_simp); (try with_reducible rfl)
      (try simp only [Act.put, tkS])
      refine wpAnyH_ready (rs := [24]) (by kernel_rfl) (by simp) ?_
      refine AllReadyH.cons rfl (fun K hK => ?_) ?_
      rotate_left
      ·exact AllReadyH.nil
      go_simp
      have hHn := hHeld
      obtain ⟨sb, hBs⟩ := hHn
      refine (HMK0.out _).mono ?_
      rintro e wn ⟨rfl, hwn⟩
      obtain rfl := hwn
      refine hK.out _ _ ?_ (fun hHeld => ?_)
      ·(try dsimp only); exact hHeld
      clear hK K
      (try simp only [Act.put, tkS])
      refine tk (i := 25) (v := ?_) rfl ?_ ?_; rotate_left
      ·(intro wq hSw; (try dsimp only at hSw); obtain ⟨sb, hBs⟩ := hSw; have ck := capBlk.at sb k hlt; have c0 := capBlk.at sb 0 (by decide); go_simp); (try with_reducible rfl)
      (try simp only [Act.put, tkS])
      refine tk (i := 26) (v := ?_) rfl ?_ ?_; rotate_left
      ·(intro wq hSw; (try dsimp only at hSw); obtain ⟨sb, hBs⟩ := hSw; have ck := capBlk.at sb k hlt; have c0 := capBlk.at sb 0 (by decide); go_simp); (try with_reducible rfl)
      (try simp only [Act.put, tkS])
      refine wpAnyH_done (by kernel_rfl) ?_ _
      refine NoPanic.normal ?_
      go_wp2
      go_roundw
      case rel => exact ⟨k + 1, by omega, by omega, by go_num, hHeld.1, hHeld.2⟩
      case measure => (simp [RowKit.intOf]) <;> omega
     ·have hgi : ¬ (G : Int) < (k : Int) := by omega
      go_wp2_with fail
      refine wp_region_noPanic ?_
      refine wp_region_held_drew (S := fun w' => Blk w' w2.heap.size (cH C) 27 ∧ Below w0.heap.size w0 w') (by kernel_rfl) ?_ (fun hHeld => ?_)
      ·(try dsimp only); exact ⟨HSK.out.1.drew, HSK.out.2.drew⟩
      refine tk (i := 0) (v := ?_) rfl ?_ ?_; rotate_left
      ·(intro wq hSw; (try dsimp only at hSw); obtain ⟨sb, hBs⟩ := hSw; have ck := capBlk.at sb k hlt; have c0 := capBlk.at sb 0 (by decide); go_simp); (try with_reducible rfl)
      (try simp only [Act.put, tkS])
      refine tk (i := 1) (v := ?_) rfl ?_ ?_; rotate_left
      ·(intro wq hSw; (try dsimp only at hSw); obtain ⟨sb, hBs⟩ := hSw; have ck := capBlk.at sb k hlt; have c0 := capBlk.at sb 0 (by decide); go_simp); (try with_reducible rfl)
      (try simp only [Act.put, tkS])
      refine tk (i := 2) (v := ?_) rfl ?_ ?_; rotate_left
      ·(intro wq hSw; (try dsimp only at hSw); obtain ⟨sb, hBs⟩ := hSw; have ck := capBlk.at sb k hlt; have c0 := capBlk.at sb 0 (by decide); go_simp); (try with_reducible rfl)
      (try simp only [Act.put, tkS])
      refine wpAnyH_ready (rs := [3]) (by kernel_rfl) (by simp) ?_
      refine AllReadyH.cons rfl (fun K hK => ?_) ?_
      rotate_left
      ·exact AllReadyH.nil
      go_simp
      have hHn := hHeld
      obtain ⟨sb, hBs⟩ := hHn
      refine (HMK0.out _).mono ?_
      rintro e wn ⟨rfl, hwn⟩
      obtain rfl := hwn
      refine hK.out _ _ ?_ (fun hHeld => ?_)
      ·(try dsimp only); exact hHeld
      clear hK K
      (try simp only [Act.put, tkS])
      refine tk (i := 4) (v := ?_) rfl ?_ ?_; rotate_left
      ·(intro wq hSw; (try dsimp only at hSw); obtain ⟨sb, hBs⟩ := hSw; have ck := capBlk.at sb k hlt; have c0 := capBlk.at sb 0 (by decide); go_simp); (try with_reducible rfl)
      (try simp only [Act.put, tkS])
      refine tku (i := 5) rfl ?_
      (try simp only [Act.put, tkS])
      refine tku (i := 6) rfl ?_
      (try simp only [Act.put, tkS])
      refine tku (i := 7) rfl ?_
      (try simp only [Act.put, tkS])
      refine tku (i := 8) rfl ?_
      (try simp only [Act.put, tkS])
      refine tku (i := 9) rfl ?_
      (try simp only [Act.put, tkS])
      refine tku (i := 10) rfl ?_
      (try simp only [Act.put, tkS])
      refine tku (i := 11) rfl ?_
      (try simp only [Act.put, tkS])
      refine tku (i := 12) rfl ?_
      (try simp only [Act.put, tkS])
      refine tku (i := 13) rfl ?_
      (try simp only [Act.put, tkS])
      refine tk (i := 14) (v := ?_) rfl ?_ ?_; rotate_left
      ·(intro wq hSw; (try dsimp only at hSw); obtain ⟨sb, hBs⟩ := hSw; have ck := capBlk.at sb k hlt; have c0 := capBlk.at sb 0 (by decide); go_simp); (try with_reducible rfl)
      (try simp only [Act.put, tkS])
      refine tk (i := 15) (v := ?_) rfl ?_ ?_; rotate_left
      ·(intro wq hSw; (try dsimp only at hSw); obtain ⟨sb, hBs⟩ := hSw; have ck := capBlk.at sb k hlt; have c0 := capBlk.at sb 0 (by decide); go_simp); (try with_reducible rfl)
      (try simp only [Act.put, tkS])
      refine tk (i := 16) (v := ?_) rfl ?_ ?_; rotate_left
      ·(intro wq hSw; (try dsimp only at hSw); obtain ⟨sb, hBs⟩ := hSw; have ck := capBlk.at sb k hlt; have c0 := capBlk.at sb 0 (by decide); go_simp); (try with_reducible rfl)
      (try simp only [Act.put, tkS])
      refine tk (i := 17) (v := ?_) rfl ?_ ?_; rotate_left
      ·(intro wq hSw; (try dsimp only at hSw); obtain ⟨sb, hBs⟩ := hSw; have ck := capBlk.at sb k hlt; have c0 := capBlk.at sb 0 (by decide); go_simp); (try with_reducible rfl)
      (try simp only [Act.put, tkS])
      refine wpAnyH_ready (rs := [18]) (by kernel_rfl) (by simp) ?_
      refine AllReadyH.cons rfl (fun K hK => ?_) ?_
      rotate_left
      ·exact AllReadyH.nil
      go_simp
      have hHn := hHeld
      obtain ⟨sb, hBs⟩ := hHn
      refine (HGR.out _ hBs).mono ?_
      rintro e wn ⟨rfl, hBn⟩
      refine hK.out _ _ ?_ (fun hHeld => ?_)
      ·(try dsimp only); exact ⟨sb.below hBn sb.lt, hBs.trans (hBn.mono hBs.size)⟩
      clear hK K
      (try simp only [Act.put, tkS])
      refine tk (i := 19) (v := ?_) rfl ?_ ?_; rotate_left
      ·(intro wq hSw; (try dsimp only at hSw); obtain ⟨sb, hBs⟩ := hSw; have ck := capBlk.at sb k hlt; have c0 := capBlk.at sb 0 (by decide); go_simp); (try with_reducible rfl)
      (try simp only [Act.put, tkS])
      refine tk (i := 20) (v := ?_) rfl ?_ ?_; rotate_left
      ·(intro wq hSw; (try dsimp only at hSw); obtain ⟨sb, hBs⟩ := hSw; have ck := capBlk.at sb k hlt; have c0 := capBlk.at sb 0 (by decide); go_simp); (try with_reducible rfl)
      (try simp only [Act.put, tkS])
      refine tku (i := 21) rfl ?_
      (try simp only [Act.put, tkS])
      refine tku (i := 22) rfl ?_
      (try simp only [Act.put, tkS])
      refine tku (i := 23) rfl ?_
      (try simp only [Act.put, tkS])
      refine tku (i := 24) rfl ?_
      (try simp only [Act.put, tkS])
      refine tk (i := 25) (v := ?_) rfl ?_ ?_; rotate_left
      ·(intro wq hSw; (try dsimp only at hSw); obtain ⟨sb, hBs⟩ := hSw; have ck := capBlk.at sb k hlt; have c0 := capBlk.at sb 0 (by decide); go_simp); (try with_reducible rfl)
      (try simp only [Act.put, tkS])
      refine tk (i := 26) (v := ?_) rfl ?_ ?_; rotate_left
      ·(intro wq hSw; (try dsimp only at hSw); obtain ⟨sb, hBs⟩ := hSw; have ck := capBlk.at sb k hlt; have c0 := capBlk.at sb 0 (by decide); go_simp); (try with_reducible rfl)
      (try simp only [Act.put, tkS])
      refine wpAnyH_done (by kernel_rfl) ?_ _
      refine NoPanic.normal ?_
      go_wp2
      go_roundw
      case rel => exact ⟨k + 1, by omega, by omega, by go_num, hHeld.1, hHeld.2⟩
      case measure => (simp [RowKit.intOf]) <;> omega
    | some ab =>
     obtain ⟨a, b⟩ := ab
     have hgk : ¬ G < k := fun h => by have := HMK.out h; rw [hck] at this; cases this
     have hgi : ¬ (G : Int) < (k : Int) := by omega
     have HMK1 : Hid (∀ w, Calls Tryz.prog 23 #[spV (C k)] w fun e w' => e = .returned (.bool true) ∧ w' = w) := Lib.hid (fun w => by
      have := HMY.out k w
      rw [hck] at this ⊢; exact this)
     have HHU : Hid (∀ w, Calls Tryz.prog 26 #[spV (C 0), spV (C k)] w fun e w' => ∃ v, e = .returned v ∧ ((∀ (t : TypeId) (W : World), (binOp .neq t v (spV (C 0))).run Tryz.prog W = .ok (.bool false) W) ∧ ∀ (t : TypeId) (x y : Operand) (W : World), (eqGuard .neq t x y v (spV (C 0))).run Tryz.prog W = .ok () W) ∧ w' = w) := Lib.hid (fun w => by
      rcases HNK.out with q | ⟨x, y, q, q1, q2, q3⟩
      ·rw [hck] at q; cases q
      ·exact hull_sp HC0.out q q1 q2 q3 (by omega) w)
     clear hck
     go_wp2_with fail
     refine wp_region_noPanic ?_
     refine wp_region_held_drew (S := fun w' => Blk w' w2.heap.size (cH C) 27 ∧ Below w0.heap.size w0 w') (by kernel_rfl) ?_ (fun hHeld => ?_)
     ·(try dsimp only); exact ⟨HSK.out.1.drew, HSK.out.2.drew⟩
     refine tk (i := 0) (v := ?_) rfl ?_ ?_; rotate_left
     ·(intro wq hSw; (try dsimp only at hSw); obtain ⟨sb, hBs⟩ := hSw; have ck := capBlk.at sb k hlt; have c0 := capBlk.at sb 0 (by decide); go_simp); (try with_reducible rfl)
     (try simp only [Act.put, tkS])
     refine tk (i := 1) (v := ?_) rfl ?_ ?_; rotate_left
     ·(intro wq hSw; (try dsimp only at hSw); obtain ⟨sb, hBs⟩ := hSw; have ck := capBlk.at sb k hlt; have c0 := capBlk.at sb 0 (by decide); go_simp); (try with_reducible rfl)
     (try simp only [Act.put, tkS])
     refine tk (i := 2) (v := ?_) rfl ?_ ?_; rotate_left
     ·(intro wq hSw; (try dsimp only at hSw); obtain ⟨sb, hBs⟩ := hSw; have ck := capBlk.at sb k hlt; have c0 := capBlk.at sb 0 (by decide); go_simp); (try with_reducible rfl)
     (try simp only [Act.put, tkS])
     refine wpAnyH_ready (rs := [3]) (by kernel_rfl) (by simp) ?_
     refine AllReadyH.cons rfl (fun K hK => ?_) ?_
     rotate_left
     ·exact AllReadyH.nil
     go_simp
     have hHn := hHeld
     obtain ⟨sb, hBs⟩ := hHn
     refine (HMK1.out _).mono ?_
     rintro e wn ⟨rfl, hwn⟩
     obtain rfl := hwn
     refine hK.out _ _ ?_ (fun hHeld => ?_)
     ·(try dsimp only); exact hHeld
     clear hK K
     (try simp only [Act.put, tkS])
     refine tk (i := 4) (v := ?_) rfl ?_ ?_; rotate_left
     ·(intro wq hSw; (try dsimp only at hSw); obtain ⟨sb, hBs⟩ := hSw; have ck := capBlk.at sb k hlt; have c0 := capBlk.at sb 0 (by decide); go_simp); (try with_reducible rfl)
     (try simp only [Act.put, tkS])
     refine tk (i := 5) (v := ?_) rfl ?_ ?_; rotate_left
     ·(intro wq hSw; (try dsimp only at hSw); obtain ⟨sb, hBs⟩ := hSw; have ck := capBlk.at sb k hlt; have c0 := capBlk.at sb 0 (by decide); go_simp); (try with_reducible rfl)
     (try simp only [Act.put, tkS])
     refine tk (i := 6) (v := ?_) rfl ?_ ?_; rotate_left
     ·(intro wq hSw; (try dsimp only at hSw); obtain ⟨sb, hBs⟩ := hSw; have ck := capBlk.at sb k hlt; have c0 := capBlk.at sb 0 (by decide); go_simp); (try with_reducible rfl)
     (try simp only [Act.put, tkS])
     refine tk (i := 7) (v := ?_) rfl ?_ ?_; rotate_left
     ·(intro wq hSw; (try dsimp only at hSw); obtain ⟨sb, hBs⟩ := hSw; have ck := capBlk.at sb k hlt; have c0 := capBlk.at sb 0 (by decide); go_simp); (try with_reducible rfl)
     (try simp only [Act.put, tkS])
     refine tk (i := 8) (v := ?_) rfl ?_ ?_; rotate_left
     ·(intro wq hSw; (try dsimp only at hSw); obtain ⟨sb, hBs⟩ := hSw; have ck := capBlk.at sb k hlt; have c0 := capBlk.at sb 0 (by decide); go_simp); (try with_reducible rfl)
     (try simp only [Act.put, tkS])
     refine tk (i := 9) (v := ?_) rfl ?_ ?_; rotate_left
     ·(intro wq hSw; (try dsimp only at hSw); obtain ⟨sb, hBs⟩ := hSw; have ck := capBlk.at sb k hlt; have c0 := capBlk.at sb 0 (by decide); go_simp); (try with_reducible rfl)
     (try simp only [Act.put, tkS])
     refine tk (i := 11) (v := ?_) rfl ?_ ?_; rotate_left
     ·(intro wq hSw; (try dsimp only at hSw); obtain ⟨sb, hBs⟩ := hSw; have ck := capBlk.at sb k hlt; have c0 := capBlk.at sb 0 (by decide); go_simp); (try with_reducible rfl)
     (try simp only [Act.put, tkS])
     refine tk (i := 12) (v := ?_) rfl ?_ ?_; rotate_left
     ·(intro wq hSw; (try dsimp only at hSw); obtain ⟨sb, hBs⟩ := hSw; have ck := capBlk.at sb k hlt; have c0 := capBlk.at sb 0 (by decide); go_simp); (try with_reducible rfl)
     (try simp only [Act.put, tkS])
     refine wpAnyH_ready (rs := [10]) (by kernel_rfl) (by simp) ?_
     refine AllReadyH.cons rfl (fun K hK => ?_) ?_
     rotate_left
     ·exact AllReadyH.nil
     go_simp
     have hHn := hHeld
     obtain ⟨sb, hBs⟩ := hHn
     refine (HHU.out _).mono ?_
     rintro e wn ⟨v, rfl, ⟨hne, hng⟩, hwn⟩
     obtain rfl := hwn
     refine hK.out _ _ ?_ (fun hHeld => ?_)
     ·(try dsimp only); exact hHeld
     clear hK K
     (try simp only [Act.put, tkS])
     refine tk (i := 13) (v := ?_) rfl ?_ ?_; rotate_left
     ·(intro wq hSw; (try dsimp only at hSw); obtain ⟨sb, hBs⟩ := hSw; have ck := capBlk.at sb k hlt; have c0 := capBlk.at sb 0 (by decide); go_simp); (try with_reducible rfl)
     (try simp only [Act.put, tkS])
     refine tk (i := 14) (v := ?_) rfl ?_ ?_; rotate_left
     ·(intro wq hSw; (try dsimp only at hSw); obtain ⟨sb, hBs⟩ := hSw; have ck := capBlk.at sb k hlt; have c0 := capBlk.at sb 0 (by decide); go_simp); (try with_reducible rfl)
     (try simp only [Act.put, tkS])
     refine tk (i := 15) (v := ?_) rfl ?_ ?_; rotate_left
     ·(intro wq hSw; (try dsimp only at hSw); obtain ⟨sb, hBs⟩ := hSw; have ck := capBlk.at sb k hlt; have c0 := capBlk.at sb 0 (by decide); go_simp); (try with_reducible rfl)
     (try simp only [Act.put, tkS])
     refine tk (i := 16) (v := ?_) rfl ?_ ?_; rotate_left
     ·(intro wq hSw; (try dsimp only at hSw); obtain ⟨sb, hBs⟩ := hSw; have ck := capBlk.at sb k hlt; have c0 := capBlk.at sb 0 (by decide); go_simp); (try with_reducible rfl)
     (try simp only [Act.put, tkS])
     refine tk (i := 17) (v := ?_) rfl ?_ ?_; rotate_left
     ·(intro wq hSw; (try dsimp only at hSw); obtain ⟨sb, hBs⟩ := hSw; have ck := capBlk.at sb k hlt; have c0 := capBlk.at sb 0 (by decide); go_simp); (try with_reducible rfl)
     (try simp only [Act.put, tkS])
     refine wpAnyH_ready (rs := [18]) (by kernel_rfl) (by simp) ?_
     refine AllReadyH.cons rfl (fun K hK => ?_) ?_
     rotate_left
     ·exact AllReadyH.nil
     go_simp
     have hHn := hHeld
     obtain ⟨sb, hBs⟩ := hHn
     refine (HGR.out _ hBs).mono ?_
     rintro e wn ⟨rfl, hBn⟩
     refine hK.out _ _ ?_ (fun hHeld => ?_)
     ·(try dsimp only); exact ⟨sb.below hBn sb.lt, hBs.trans (hBn.mono hBs.size)⟩
     clear hK K
     (try simp only [Act.put, tkS])
     refine tk (i := 19) (v := ?_) rfl ?_ ?_; rotate_left
     ·(intro wq hSw; (try dsimp only at hSw); obtain ⟨sb, hBs⟩ := hSw; have ck := capBlk.at sb k hlt; have c0 := capBlk.at sb 0 (by decide); go_simp); (try with_reducible rfl)
     (try simp only [Act.put, tkS])
     refine tk (i := 20) (v := ?_) rfl ?_ ?_; rotate_left
     ·(intro wq hSw; (try dsimp only at hSw); obtain ⟨sb, hBs⟩ := hSw; have ck := capBlk.at sb k hlt; have c0 := capBlk.at sb 0 (by decide); go_simp); (try with_reducible rfl)
     (try simp only [Act.put, tkS])
     refine tku (i := 21) rfl ?_
     (try simp only [Act.put, tkS])
     refine tku (i := 22) rfl ?_
     (try simp only [Act.put, tkS])
     refine tku (i := 23) rfl ?_
     (try simp only [Act.put, tkS])
     refine tku (i := 24) rfl ?_
     (try simp only [Act.put, tkS])
     refine tk (i := 25) (v := ?_) rfl ?_ ?_; rotate_left
     ·(intro wq hSw; (try dsimp only at hSw); obtain ⟨sb, hBs⟩ := hSw; have ck := capBlk.at sb k hlt; have c0 := capBlk.at sb 0 (by decide); go_simp); (try with_reducible rfl)
     (try simp only [Act.put, tkS])
     refine tk (i := 26) (v := ?_) rfl ?_ ?_; rotate_left
     ·(intro wq hSw; (try dsimp only at hSw); obtain ⟨sb, hBs⟩ := hSw; have ck := capBlk.at sb k hlt; have c0 := capBlk.at sb 0 (by decide); go_simp); (try with_reducible rfl)
     (try simp only [Act.put, tkS])
     refine wpAnyH_done (by kernel_rfl) ?_ _
     refine NoPanic.normal ?_
     go_wp2
     go_roundw
     case rel => exact ⟨k + 1, by omega, by omega, by go_num, hHeld.1, hHeld.2⟩
     case measure => (simp [RowKit.intOf]) <;> omega
   ·obtain rfl : k = 10 := by omega
    go_wp2
    go_ret
    exact ⟨rfl, hBk⟩
theorem matchInsideB (p : Option Addr) (n cap : Nat) (xs : List Nd) (t : ByteArray) (i : Int) (w : World) (hN : Nodes w p n xs) (hs : t.size ≤ reachBytes) (hi : -9223372036854775808 ≤ i ∧ i ≤ 9223372036854775807) (hf : Fit4 w) :
  Calls Tryz.prog 5 #[.slice p n cap, .string t, .int .i64 i] w fun e w' => e = .returned (.bool true) ∧ Below w.heap.size w w' := by
 obtain ⟨s, rfl⟩ : ∃ s : List UInt8, t = ⟨s.toArray⟩ := ⟨t.data.toList, by simp⟩
 have hsh : ∀ W, Below w.heap.size w W → Calls Tryz.prog 10 #[] W fun e w' => e = .returned (.bool true) ∧ Below W.heap.size W w' := fun W hB => shown6_c W (hf.below hB) (hf.below hB).f.fit.tab (hf.below hB).f.fit.pos
 cases hbd : bdR xs s with
 | true =>
  obtain ⟨C, R, h1, h2, h3⟩ := in_calls (cap := cap) (s := s) i hN hbd hf.f.fit.tab hf.f.fit.pos
  exact inside_go p n cap xs s i w hN (bd_len hbd).2 hbd C R h1 h2 h3 hsh
 | false =>
  have HBD : Hid (Calls Tryz.prog 9 #[.slice p n cap, .string ⟨s.toArray⟩] w fun e w' => e = .returned (.bool false) ∧ w' = w) := Lib.hid (by have := bounded_c p n cap xs s w hN; rw [hbd] at this; exact this)
  have HSH := Lib.hid hsh
  clear hN hbd hsh hf hs
  go_enter Tryz.func5, Tryz.ntmps5
  go_wp2_with fail
  refine HBD.out.mono ?_
  rintro e w0 ⟨rfl, hw0⟩
  obtain rfl := hw0
  go_wp2_with fail
  refine (HSH.out _ (Below.refl _ _)).mono ?_
  rintro e w1 ⟨rfl, hB1⟩
  have HB1 := Lib.hid hB1
  clear hB1
  go_wp2
  go_ret
  exact ⟨rfl, HB1.out⟩
end Go.Proofs.YtibkllialokdeaaGreatDoor
