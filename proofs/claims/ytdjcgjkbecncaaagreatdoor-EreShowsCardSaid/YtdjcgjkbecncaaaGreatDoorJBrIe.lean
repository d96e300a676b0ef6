/- Backward over a slice of ints: its closure, for every loop body that keeps the slice's variable and array. -/
import Derived.Test.YtdjcgjkbecncaaaGreatDoorJBrP
import Derived.RangeFuncNested
import Derived.RangeFuncBound
import Derived.RangeFuncCalls
import Derived.RangeFuncLeaves
import Derived.RangeFuncBox
import Derived.Shelf.Abstract
import Derived.Shelf.RegionOpen
import Derived.OwnWalkIn
import Derived.TacticsInMore
import Derived.LoopNIn
import Derived.LoopIn
import Derived.Test.YtdjcgjkbecncaaaGreatDoorJBrW
import Derived.Maps.OwnIn
import Derived.Test.YtdjcgjkbecncaaaGreatDoorJBrZ
set_option linter.unusedVariables false
set_option linter.unusedSimpArgs false
set_option maxRecDepth 100000
set_option maxHeartbeats 40000000
namespace Go.Proofs.YtdjcgjkbecncaaaGreatDoor
open Go.RowKit Go.Shelf
def bkd (ps : List Int) (m : Nat) : Nat → List (Nat × Int)
 | 0 => []
 | d + 1 => bkd ps m d ++ [(m - 1 - d, ps.getD (m - 1 - d) 0)]
theorem bkd_len (ps : List Int) (m : Nat) : ∀ d, (bkd ps m d).length = d
 | 0 => rfl
 | d + 1 => by rw [bkd, List.length_append, bkd_len ps m d]; rfl
structure Hold2 (p q : Nat) (W W' : World) : Prop where
 a : W'.heap[p]? = W.heap[p]?
 b : W'.heap[q]? = W.heap[q]?
theorem Hold2.refl (p q : Nat) (W : World) : Hold2 p q W W := ⟨rfl, rfl⟩
theorem Hold2.trans {p q : Nat} {A B C : World} (h : Hold2 p q A B) (k : Hold2 p q B C) : Hold2 p q A C := ⟨k.a.trans h.a, k.b.trans h.b⟩
def Ints (w : World) (g m : Nat) (ps : List Int) : Prop := ∃ cs T f, w.heap[g]? = some (.cells cs T f) ∧ ∀ j, j < m → cs[j]? = some (.int .i64 (ps.getD j 0))
theorem Ints.hold {w w' : World} {p g m : Nat} {ps : List Int} (h : Ints w g m ps) (k : Hold2 p g w w') : Ints w' g m ps := by
 obtain ⟨cs, T, f, h1, h2⟩ := h
 exact ⟨cs, T, f, k.b.trans h1, h2⟩
theorem Ints.cell {w : World} {g m : Nat} {ps : List Int} (h : Ints w g m ps) (j : Nat) (hj : j < m) : w.cell? ⟨g, j, none⟩ = some (.int .i64 (ps.getD j 0)) := by
 obtain ⟨cs, T, ⟨f1, f2⟩, h1, h2⟩ := h
 rw [← h2 j hj]
 simp [World.cell?, h1]
theorem back1_in (n : Nat) (hn : 1 ≤ n) (l Bs g m cap : Nat) (ps : List Int) (hm2 : m ≤ 1000000) (J Jx : List (Nat × Int) → World → Prop)
  (hY : ∀ pre x W, J pre W → pre.length < m → YieldAt Fence.wide (n - 1) Tryz.prog l #[.int .i64 (x.1 : Int), .int .i64 x.2] W fun e W' =>
   (e = .returned (.bool true) ∧ J (pre ++ [x]) W' ∧ Hold2 Bs g W W') ∨ (e = .returned (.bool false) ∧ Jx (pre ++ [x]) W'))
  (W : World) (hB : W.heap[Bs]? = some (.cells #[.slice (some ⟨g, 0, none⟩) m cap] 53 (0, 0))) (hI : Ints W g m ps) (h0 : J [] W) :
  CallsIn Fence.wide n Tryz.prog 127 #[.func (.yield l) #[] #[], .pointer (some ⟨Bs, 0, none⟩)] W fun e W' => (∃ v, e = .returned v) ∧
   ((∃ ys, ys = bkd ps m m ∧ J ys W') ∨ (∃ pre, True ∧ Jx pre W')) := by
 have hcB : W.cell? ⟨Bs, 0, none⟩ = some (.slice (some ⟨g, 0, none⟩) m cap) := (cell_of _ _ _ _ hB 0).trans rfl
 have ew : IntKind.i64.wrap ((m : Int) - 1) = (m : Int) - 1 := by simp [IntKind.wrap, IntKind.signed, IntKind.bits]; omega
 refine callsIn_of_wp Tryz.func127 rfl trivial ?_ rfl
 simp only [Tryz.ntmps127, List.size_toArray, List.length_cons, List.length_nil, Nat.reduceAdd, Nat.reduceSub, Array.replicate_succ, Array.replicate_zero, List.push_toArray, List.append_toArray, List.nil_append, List.cons_append]
 gi_wp2
 clear hcB ew
 gi_loopw [3] (fun i wr => ∃ d : Nat, d ≤ m ∧ i = .int .i64 ((m : Int) - 1 - (d : Int)) ∧ J (bkd ps m d) wr ∧ Hold2 Bs g W wr) (fun i _ => (RowKit.intOf i + 1).toNat)
 case atStart => exact ⟨0, by omega, by simp, h0, Hold2.refl _ _ _⟩
 case round =>
  obtain ⟨d, hd, rfl, hJ, hH⟩ := hrel
  have hBr := hH.a.trans hB
  have hIr := hI.hold hH
  have hcB : wr.cell? ⟨Bs, 0, none⟩ = some (.slice (some ⟨g, 0, none⟩) m cap) := (cell_of _ _ _ _ hBr 0).trans rfl
  by_cases hlt : d < m
  ·obtain ⟨q, hq, hq2⟩ : ∃ q : Nat, q = m - 1 - d ∧ (m : Int) - 1 - (d : Int) = (q : Int) := ⟨m - 1 - d, rfl, by omega⟩
   have hce := hIr.cell q (by omega)
   have hqm : (0 : Int) ≤ (q : Int) ∧ (q : Int) < (m : Int) := by omega
   rw [hq2]
   have hdec : decide ((0 : Int) ≤ (q : Int)) = true := by simp
   have ew : IntKind.i64.wrap ((q : Int) - 1) = (q : Int) - 1 := by simp [IntKind.wrap, IntKind.signed, IntKind.bits]; omega
   obtain ⟨u, hu⟩ : ∃ u, u = ps.getD q 0 := ⟨_, rfl⟩
   rw [← hu] at hce
   obtain ⟨fn, tmps, assign, body, hy, hR⟩ := hY (bkd ps m d) (q, u) wr hJ (by rw [bkd_len]; exact hlt)
   dsimp only at hy
   have HQ := Lib.hid hq
   have HU := Lib.hid hu
   clear hq hu
   gi_wp2_with fail
   refine hR.mono ?_
   rintro e W3 (⟨rfl, hJ3, hk3⟩ | ⟨rfl, hJx3⟩)
   ·gi_wp2
    go_roundw
    case rel =>
     refine ⟨d + 1, by omega, by congr 1; omega, ?_, hH.trans hk3⟩
     rw [bkd, ← HQ.out, ← HU.out]
     exact hJ3
    case measure => simp [RowKit.intOf]
   ·gi_wp2
    refine bodyPost_ret (results_none rfl _ _ _) rfl ?_
    exact ⟨⟨_, rfl⟩, .inr ⟨_, trivial, hJx3⟩⟩
  ·obtain rfl : d = m := by omega
   have hdec : (0 : Int) ≤ (d : Int) - 1 - (d : Int) ↔ False := ⟨fun h => by omega, fun h => h.elim⟩
   gi_wp2
   go_end0
   exact ⟨⟨_, rfl⟩, .inl ⟨_, rfl, hJ⟩⟩
theorem back_stops (n : Nat) (hn : 1 ≤ n) (Bs g m cap : Nat) (ps : List Int) (hm2 : m ≤ 1000000) (w : World) (hB : w.heap[Bs]? = some (.cells #[.slice (some ⟨g, 0, none⟩) m cap] 53 (0, 0))) (hI : Ints w g m ps) (hg : g < w.heap.size) :
  SeqStopsK Fence.wide n Tryz.prog 127 #[.pointer (some ⟨Bs, 0, none⟩)] (fun x : Nat × Int => #[Value.int .i64 (x.1 : Int), .int .i64 x.2]) (Hold2 Bs g) (fun ys => ys = bkd ps m m) (fun _ => True) m w := fun l J Jx W hW _ _ hY h00 =>
 back1_in n hn l Bs g m cap ps hm2 J Jx hY W ((hW.block _ (Array.getElem?_eq_some_iff.1 hB).1).trans hB) (hI.hold ⟨hW.block _ (Array.getElem?_eq_some_iff.1 hB).1, hW.block _ hg⟩) h00
theorem hold2_b {p q : Nat} {w : World} (hp : p < w.heap.size) (hq : q < w.heap.size) (W : World) (l : Nat) (o o' : Obj) (hl : w.heap.size ≤ l) (h : W.heap[l]? = some o) (_ : o.isCells = false) (_ : o.isWalk = false) : Hold2 p q W (W.putObj l o') :=
 ⟨World.putObj_heap_other (by omega), World.putObj_heap_other (by omega)⟩
theorem back_c (o : Option Addr) (m cap : Nat) (w : World) : Calls Tryz.prog 101 #[.slice o m cap] w fun e w' => e = .returned (.func (.func 127) #[] #[.pointer (some ⟨w.heap.size, 0, none⟩)]) ∧ w' = w.alloc (.cells #[.slice o m cap] 53) := by
 go_enter Tryz.func101, Tryz.ntmps101
 go_wp2
 go_ret
 exact ⟨rfl, rfl⟩
end Go.Proofs.YtdjcgjkbecncaaaGreatDoor
namespace Go.Proofs.YtdjcgjkbecncaaaGreatDoor
open Go.RowKit Go.Shelf
theorem own_but {w w' : World} {S : Nat → Prop} {base size n : Nat} {e : TypeId} {v : Value} {xs : List Value} (h : w.ownsRow base e size v n xs) (k : But S w w') (hS : ∀ j, v.ownBlock = some j → ¬ S j) : w'.ownsRow base e size v n xs := by
 refine ⟨h.1, ?_⟩
 rcases h.2 with hn | ⟨g, cap, cur, rfl, hb, hgg, rest⟩
 ·exact .inl hn
 ·refine .inr ⟨g, cap, cur, rfl, hb, ?_, rest⟩
  rw [k.block g (Array.getElem?_eq_some_iff.1 hgg).1 (hS g (by simp [Value.ownBlock]))]
  exact hgg
structure RS (w0 : World) (b : Nat) (s : List UInt8) (v pv : Value) (ps : List Int) (W : World) (q : BRd) (v1 : Value) : Prop where
 x : RX W b s q v1
 k : RK w0 b v W v1
 own : W.ownsRow w0.heap.size 3 1 pv ps.length (ps.map (Value.int .i64))
 ne : ∀ j, pv.ownBlock = some j → v1.ownBlock ≠ some j
 bl : b < w0.heap.size
 vl : ∀ j, v.ownBlock = some j → j < w0.heap.size
section
variable {w0 W W' : World} {b : Nat} {s : List UInt8} {v pv pv' v1 v2 : Value} {ps : List Int} {q q' : BRd}
theorem RS.step (h : RS w0 b s v pv ps W q v1) (x : RX W' b s q' v2) (k : RK W b v1 W' v2) : RS w0 b s v pv ps W' q' v2 := by
 refine ⟨x, h.k.trans k, own_but h.own k.k (fun j e t => ?_), fun j e t => ?_, h.bl, h.vl⟩
 ·rcases t with t | t
  ·have := (h.own.lt j e).1; have := h.bl; omega
  ·exact h.ne j e t
 ·rcases k.v with c | ⟨m, c, hm⟩
  ·exact h.ne j e (c.symm.trans t)
  ·rw [c] at t; have := Option.some.inj t; have := (h.own.lt j e).2; omega
theorem RS.below (h : RS w0 b s v pv ps W q v1) (hB : Below W.heap.size W W') : RS w0 b s v pv ps W' q v1 := h.step (h.x.below hB) (RK.below hB)
theorem RS.alloc (h : RS w0 b s v pv ps W q v1) (o : Obj) : RS w0 b s v pv ps (W.alloc o) q v1 := h.below ((Below.refl _ W).alloc (Nat.le_refl _) o)
theorem RS.app (h : RS w0 b s v pv ps W q v1) (a : Int) (hg : W.grownBy W' pv.ownBlock) (ho : W'.ownsRow w0.heap.size 3 1 pv' (ps.length + 1) (ps.map (Value.int .i64) ++ [.int .i64 a]))
  (hat : pv'.ownBlock = pv.ownBlock ∨ pv'.ownBlock = some W.heap.size) : RS w0 b s v pv' (ps ++ [a]) W' q v1 := by
 have hpb : ∀ j, pv.ownBlock = some j → w0.heap.size ≤ j := fun j e => (h.own.lt j e).1
 refine ⟨⟨(hg.block b h.x.lt (fun e => by have := hpb b e.symm; have := h.bl; omega)).trans h.x.heap, h.x.row.kept hg ?_, h.x.ob, h.x.p, h.x.s, h.x.l⟩, ⟨⟨hg.os.trans h.k.k.os, hg.tape.trans h.k.k.tape, hg.output.trans h.k.k.output, Nat.le_trans h.k.k.size hg.size, fun k hk hs => (hg.block k (Nat.lt_of_lt_of_le hk h.k.k.size) (fun e => by have := hpb k e.symm; omega)).trans (h.k.k.block k hk hs)⟩, h.k.v⟩, ?_, fun j e t => ?_, h.bl, h.vl⟩
 ·cases e : v1.ownBlock with
  | none => exact .inl rfl
  | some j => exact .inr (fun t => h.ne j t.symm e)
 ·simpa using ho
 ·rcases hat with c | c
  ·exact h.ne j (c.symm.trans e) t
  ·rw [c] at e
   have := (h.x.row.lt j t).2
   have := Option.some.inj e
   omega
theorem RS.boxed {B : Nat} {T : TypeId} {u : Value} (h : RS w0 b s v pv ps W q v1) (hb : Boxed w0 B T u) (hB : B ≠ b) (hv : v.ownBlock ≠ some B) : Boxed W B T u :=
 (h.k.k.block B hb.lt (fun e => by rcases e with e | e; exact hB e; exact hv e)).trans hb
theorem RS.start (x : RX w0 b s q v) (hv : ∀ j, v.ownBlock = some j → j < w0.heap.size) : RS w0 b s v (.slice none 0 0) [] w0 q v :=
 ⟨x, RK.refl, World.ownsRow_nil _ _ _ _, fun j e => by simp [Value.ownBlock] at e, x.lt, hv⟩
theorem RS.place (h : RS w0 b s v pv ps W q v1) : placeIn b W = q.p := by
 unfold placeIn
 rw [show W.cell? ⟨b, 1, none⟩ = some (.int .i64 (q.p : Int)) from (h.x.cell 1).trans rfl]
 simp
theorem RS.slice (h : RS w0 b s v pv ps W q v1) : ∃ o cap, pv = .slice o ps.length cap := by
 rcases h.own.2 with ⟨e, h0⟩ | ⟨g, cap, cur, e, _⟩
 ·exact ⟨none, 0, by rw [e, h0]⟩
 ·exact ⟨_, cap, e⟩
theorem RS.ints (h : RS w0 b s v pv ps W q v1) {g m cap : Nat} (e : pv = .slice (some ⟨g, 0, none⟩) m cap) : Ints W g ps.length ps := by
 rcases h.own.2 with ⟨e2, h0⟩ | ⟨g', cap', cur, e2, _, hgg, _, _, _, htake⟩
 ·rw [e] at e2; cases e2
 ·rw [e] at e2
  cases e2
  refine ⟨cur, _, _, hgg, fun j hj => ?_⟩
  have : (ps.map (Value.int .i64))[j]? = some (.int .i64 (ps.getD j 0)) := by
   rw [List.getElem?_map, List.getElem?_eq_getElem hj]; simp [List.getD, List.getElem?_eq_getElem hj]
  rw [← htake, List.getElem?_take] at this
  split at this
  ·simpa using this
  ·cases this
end
structure RI (s : List UInt8) (row : BRd → Except Er (Bool × BRd)) (g : Nat) (r1 : BRd) (p1 : List Int) (q : BRd) (ps : List Int) (fu : Nat) : Prop where
 e : itemsP s row (s.length + 1) r1 p1 = itemsP s row fu q ps
 f : s.length < fu + q.p
 n : ps.length ≤ q.p + 1
 g : g ≤ q.g
 g9 : q.g ≤ 9
theorem RI.next {s : List UInt8} {row : BRd → Except Er (Bool × BRd)} {g : Nat} {r1 q q' : BRd} {p1 ps : List Int} {fu : Nat} {i : Int} (h : RI s row g r1 p1 q ps fu) (hn : endsP s q.p = false) (hi : itemP s row q = .ok (i, q')) (G : BGoes s q.g q.p q') (hp : q.p ≤ s.length) : RI s row g r1 p1 q' (ps ++ [i]) (fu - 1) := by
 have hf := h.f
 have := endsP_not hp hn
 obtain ⟨fu, rfl⟩ : ∃ k, fu = k + 1 := ⟨fu - 1, by omega⟩
 refine ⟨?_, by have := G.p; simp; omega, by have := G.p; have := h.n; simp; omega, Nat.le_trans h.g G.g, G.g9⟩
 rw [h.e, itemsP, hn]
 simp [hi]
theorem RI.err {s : List UInt8} {row : BRd → Except Er (Bool × BRd)} {g : Nat} {r1 q : BRd} {p1 ps : List Int} {fu : Nat} {er : Er} (h : RI s row g r1 p1 q ps fu) (hn : endsP s q.p = false) (hi : itemP s row q = .error er) (hp : q.p ≤ s.length) : itemsP s row (s.length + 1) r1 p1 = .error er := by
 have hf := h.f
 have := endsP_not hp hn
 obtain ⟨fu, rfl⟩ : ∃ k, fu = k + 1 := ⟨fu - 1, by omega⟩
 rw [h.e, itemsP, hn]
 simp [hi]
theorem RI.done {s : List UInt8} {row : BRd → Except Er (Bool × BRd)} {g : Nat} {r1 q : BRd} {p1 ps : List Int} {fu : Nat} (h : RI s row g r1 p1 q ps fu) (hn : endsP s q.p = true) (hp : q.p ≤ s.length) : itemsP s row (s.length + 1) r1 p1 = .ok (ps, q) := by
 have hf := h.f
 obtain ⟨fu, rfl⟩ : ∃ k, fu = k + 1 := ⟨fu - 1, by omega⟩
 rw [h.e, itemsP, hn]
 simp
end Go.Proofs.YtdjcgjkbecncaaaGreatDoor
namespace Go.Proofs.YtdjcgjkbecncaaaGreatDoor
open Go.RowKit Go.Shelf
def cat1 (p : BRd × Int) (a : Int) : BRd × Int := (p.1.put ⟨4, 0, 0, 0, 0, a, p.2, 0, 0, 0⟩, ((p.1.put ⟨4, 0, 0, 0, 0, a, p.2, 0, 0, 0⟩).l.length : Int) - 1)
def catX (p : BRd × Int) (pre : List (Nat × Int)) : BRd × Int := pre.foldl (fun p x => cat1 p x.2) p
theorem catX_next (p : BRd × Int) (pre : List (Nat × Int)) (x : Nat × Int) : catX p (pre ++ [x]) = cat1 (catX p pre) x.2 := by simp [catX]
theorem catsP_fold : ∀ (tl : List Int) (q : BRd) (z : Int), catsP tl q z = (tl.foldl cat1 (q, z)).1
 | [], q, z => rfl
 | a :: tl, q, z => by rw [catsP]; exact catsP_fold tl _ _
theorem bkd_snd (l : List Int) (z : Int) : ∀ d, d ≤ l.length → (bkd (l ++ [z]) l.length d).map (·.2) = l.reverse.take d
 | 0, _ => rfl
 | d + 1, h => by
  rw [bkd, List.map_append, bkd_snd l z d (by omega)]
  have h1 : l.length - 1 - d < l.length := by omega
  have h2 : d < l.reverse.length := by simp; omega
  rw [List.take_succ_eq_append_getElem h2, List.getElem_reverse]
  simp [List.getD, List.getElem?_append_left h1, List.getElem?_eq_getElem h1]
theorem catX_bkd (l : List Int) (z : Int) (q : BRd) : (catX (q, z) (bkd (l ++ [z]) l.length l.length)).1 = catsP l.reverse q z := by
 rw [catsP_fold]
 have h := bkd_snd l z l.length (Nat.le_refl _)
 rw [List.take_of_length_le (by simp)] at h
 rw [← h, List.foldl_map]
 rfl
structure LK (wL : World) (b B4 : Nat) (v2 : Value) (W : World) (v' : Value) : Prop where
 k : But (fun k => (k = b ∨ v2.ownBlock = some k) ∨ k = B4) wL W
 v : v'.ownBlock = v2.ownBlock ∨ ∃ k, v'.ownBlock = some k ∧ wL.heap.size ≤ k
structure CT (wL : World) (b B1 B4 B5 g : Nat) (v2 : Value) : Prop where
 lb : b < wL.heap.size
 l1 : B1 < wL.heap.size
 l4 : B4 < wL.heap.size
 l5 : B5 < wL.heap.size
 lg : g < wL.heap.size
 b4 : b ≠ B4
 x1 : B1 ≠ b ∧ B1 ≠ B4
 x5 : B5 ≠ b ∧ B5 ≠ B4
 xg : g ≠ b ∧ g ≠ B4
 v : ∀ j, v2.ownBlock = some j → j < wL.heap.size ∧ j ≠ B1 ∧ j ≠ B4 ∧ j ≠ B5 ∧ j ≠ g
structure CS (wL : World) (b B1 B4 : Nat) (s : List UInt8) (v2 : Value) (p0 : BRd × Int) (pre : List (Nat × Int)) (v' : Value) (W : World) : Prop where
 x : RX W b s (catX p0 pre).1 v'
 k : LK wL b B4 v2 W v'
 b4 : Boxed W B4 3 (.int .i64 (catX p0 pre).2)
 b1 : Boxed W B1 172 (.pointer (some ⟨b, 0, none⟩))
section
variable {wL W W' : World} {b B1 B4 B5 g : Nat} {s : List UInt8} {v2 v' v'' : Value} {p0 : BRd × Int} {pre : List (Nat × Int)}
theorem RX.kept {w w' : World} {s : List UInt8} {r : BRd} {v : Value} {row : Option Nat} (h : RX w b s r v) (hg : w.grownBy w' row) (hb : some b ≠ row) (hv : v.ownBlock = none ∨ v.ownBlock ≠ row) : RX w' b s r v :=
 ⟨(hg.block b h.lt hb).trans h.heap, h.row.kept hg hv, h.ob, h.p, h.s, h.l⟩
theorem own_not {w : World} {base size n : Nat} {e : TypeId} {v : Value} {xs : List Value} (h : w.ownsRow base e size v n xs) {k : Nat} {o : Obj} (hk : w.heap[k]? = some o) (ho : o.isCells = false) : v.ownBlock ≠ some k := by
 intro e2
 rcases h.2 with ⟨rfl, _⟩ | ⟨g, cap, cur, rfl, _, hgg, _⟩
 ·simp [Value.ownBlock] at e2
 ·simp [Value.ownBlock] at e2
  subst e2
  rw [hgg] at hk
  cases hk
  cases ho
theorem CS.grown (h : CS wL b B1 B4 s v2 p0 pre v' W) {row : Option Nat} (hg : W.grownBy W' row) (hr : ∀ r, row = some r → wL.heap.size ≤ r ∧ ∃ o : Obj, W.heap[r]? = some o ∧ o.isCells = false) : CS wL b B1 B4 s v2 p0 pre v' W' := by
 have nb : ∀ k o, W.heap[k]? = some o → o.isCells = true → some k ≠ row := fun k o hk ho e => by
  obtain ⟨_, o', h1, h2⟩ := hr k e.symm
  rw [hk] at h1; cases h1; rw [ho] at h2; cases h2
 refine ⟨h.x.kept hg (nb _ _ h.x.heap rfl) ?_, ⟨⟨hg.os.trans h.k.k.os, hg.tape.trans h.k.k.tape, hg.output.trans h.k.k.output, Nat.le_trans h.k.k.size hg.size, fun k hk hs => (hg.block k (Nat.lt_of_lt_of_le hk h.k.k.size) (fun e => by have := (hr k e.symm).1; omega)).trans (h.k.k.block k hk hs)⟩, h.k.v⟩, h.b4.kept hg (nb _ _ h.b4 rfl), h.b1.kept hg (nb _ _ h.b1 rfl)⟩
 cases e : row with
 | none => cases e2 : v'.ownBlock with
  | none => exact .inl rfl
  | some j => exact .inr (by simp)
 | some r =>
  obtain ⟨_, o, h1, h2⟩ := hr r e
  exact .inr (own_not h.x.row h1 h2)
theorem CS.own : OwnFrom wL.heap.size (fun pre W => ∃ v', CS wL b B1 B4 s v2 p0 pre v' W) := fun pre A B row ⟨v', h⟩ hg hr => ⟨v', h.grown hg hr⟩
theorem LK.ne (h : LK wL b B4 v2 W v') (c : CT wL b B1 B4 B5 g v2) : v'.ownBlock ≠ some B1 ∧ v'.ownBlock ≠ some B4 ∧ v'.ownBlock ≠ some B5 ∧ v'.ownBlock ≠ some g := by
 have l1 := c.l1; have l4 := c.l4; have l5 := c.l5; have lg := c.lg
 rcases h.v with e | ⟨j, e, hj⟩
 ·rw [e]
  refine ⟨fun t => ?_, fun t => ?_, fun t => ?_, fun t => ?_⟩
  ·exact (c.v _ t).2.1 rfl
  ·exact (c.v _ t).2.2.1 rfl
  ·exact (c.v _ t).2.2.2.1 rfl
  ·exact (c.v _ t).2.2.2.2 rfl
 ·rw [e]
  refine ⟨fun t => ?_, fun t => ?_, fun t => ?_, fun t => ?_⟩ <;> (have := Option.some.inj t; omega)
theorem CS.next (c : CT wL b B1 B4 B5 g v2) (h : CS wL b B1 B4 s v2 p0 pre v' W) (x : Nat × Int) (hx : RX W' b s (catX p0 (pre ++ [x])).1 v'') (hk : RK W b v' W' v'') :
  KeepsFrom wL.heap.size W (W'.setCell ⟨B4, 0, none⟩ (.int .i64 (catX p0 (pre ++ [x])).2)) ∧ Hold2 B5 g W (W'.setCell ⟨B4, 0, none⟩ (.int .i64 (catX p0 (pre ++ [x])).2)) ∧
   ∃ v', CS wL b B1 B4 s v2 p0 (pre ++ [x]) v' (W'.setCell ⟨B4, 0, none⟩ (.int .i64 (catX p0 (pre ++ [x])).2)) := by
 obtain ⟨n1, n4, n5, ng⟩ := h.k.ne c
 have hs := h.k.k.size
 have hl : ∀ k, k < wL.heap.size → k ≠ b → v'.ownBlock ≠ some k → W'.heap[k]? = W.heap[k]? := fun k hk1 h1 h2 => hk.k.block k (by omega) (fun e => by rcases e with e | e; exact h1 e; exact h2 e)
 have hset : ∀ k, k ≠ B4 → (W'.setCell ⟨B4, 0, none⟩ (.int .i64 (catX p0 (pre ++ [x])).2)).heap[k]? = W'.heap[k]? := fun k hk1 => Below.heap_setCell _ _ _ _ (fun e => hk1 e)
 have hk2 : LK wL b B4 v2 W' v'' := by
  refine ⟨⟨hk.k.os.trans h.k.k.os, hk.k.tape.trans h.k.k.tape, hk.k.output.trans h.k.k.output, Nat.le_trans hs hk.k.size, fun k hk1 hn => (hk.k.block k (by omega) (fun e => ?_)).trans (h.k.k.block k hk1 hn)⟩, ?_⟩
  ·rcases e with e | e
   ·exact hn (.inl (.inl e))
   ·rcases h.k.v with t | ⟨j, t, hj⟩
    ·exact hn (.inl (.inr (t.symm.trans e)))
    ·rw [t] at e; have := Option.some.inj e; omega
  ·rcases hk.v with e | ⟨j, e, hj⟩
   ·rw [e]; exact h.k.v
   ·exact .inr ⟨j, e, by omega⟩
 obtain ⟨m1, m4, m5, mg⟩ := hk2.ne c
 have hb4 : Boxed W' B4 3 (.int .i64 (catX p0 pre).2) := (hl B4 c.l4 (fun e => c.b4 e.symm) n4).trans h.b4
 have gr0 : W'.grownBy W' (some B4) := ⟨rfl, rfl, rfl, Nat.le_refl _, fun _ _ _ => rfl⟩
 have gr := grown_setc gr0 0 (.int .i64 (catX p0 (pre ++ [x])).2)
 refine ⟨⟨Nat.le_trans hk.k.size gr.size, fun k o hk1 hk3 ho => ?_⟩, ⟨?_, ?_⟩, v'', ⟨hx.kept gr (fun e => c.b4 (Option.some.inj e)) (.inr m4), ⟨hk2.k.setCell (p := ⟨B4, 0, none⟩) (.inr rfl) _, hk2.v⟩, hb4.set _, ?_⟩⟩
 ·have hkl := (Array.getElem?_eq_some_iff.1 hk3).1
  have k4 : k ≠ B4 := fun e => by have := c.l4; omega
  rw [hset k k4, hk.k.block k hkl (fun e => by
   rcases e with e | e
   ·have := c.lb; omega
   ·exact own_not h.x.row hk3 ho e)]
  exact hk3
 ·rw [hset B5 c.x5.2]; exact hl B5 c.l5 c.x5.1 n5
 ·rw [hset g c.xg.2]; exact hl g c.lg c.xg.1 ng
 ·exact (hset B1 c.x1.2).trans ((hl B1 c.l1 c.x1.1 n1).trans h.b1)
end
end Go.Proofs.YtdjcgjkbecncaaaGreatDoor
namespace Go.Proofs.YtdjcgjkbecncaaaGreatDoor
open Go.RowKit Go.Shelf
attribute [local go_sem] Oper.semAt_some
section
variable {b : Nat} {s : List UInt8} {r : BRd} {v : Value}
theorem row_in (f : Nat) (hrow : ∀ k, r.g ≤ k → k < 9 → RowC b s (k + 1) (rowP s f)) (hok : ∀ k, r.g ≤ k → k < 9 → RowOk s (k + 1) (rowP s f)) (hen : r.g ≤ 9) (w : World) (h : RX w b s r v) (hF : FB w b v) :
  CallsIn Fence.wide 5 Tryz.prog 147 #[.pointer (some ⟨b, 0, none⟩)] w (ROut w b s v (fun any : Bool => .bool any) (rowP s (f + 1) r)) := by
 obtain ⟨i0, hi, hz0, hz1, hz2⟩ := info_parts infoI
 have hbx : Below w.heap.size w (w.alloc (.cells #[.pointer (some ⟨b, 0, none⟩)] 172)) := (Below.refl _ w).alloc (Nat.le_refl _) _
 have h1 := h.below hbx
 have hbox := Boxed.new w 172 (.pointer (some ⟨b, 0, none⟩))
 have hblt := h.lt
 have hvl : ∀ j, v.ownBlock = some j → j < w.heap.size := fun j e => (h.row.lt j e).2
 obtain ⟨w0, hw0⟩ : ∃ w0, w0 = w.alloc (.cells #[.pointer (some ⟨b, 0, none⟩)] 172) := ⟨_, rfl⟩
 have hsz : w0.heap.size = w.heap.size + 1 := by rw [hw0]; simp
 rw [← hw0] at hbx h1 hbox
 have hRS0 : RS w0 b s v (.slice none 0 0) [] w0 r v := RS.start h1 (fun j e => by have := hvl j e; omega)
 have hF0 : FB w0 b v := hF.step (RK.below hbx)
 have hbxd : ∀ W pv ps q v1, RS w0 b s v pv ps W q v1 → Boxed W w.heap.size 172 (.pointer (some ⟨b, 0, none⟩)) := fun W pv ps q v1 R => R.boxed hbox (by omega) (fun e => by have := hvl _ e; omega)
 have hsk := skip_c [94] (by simp) _ h1.tx
 have HS := Lib.hid hsk
 have H1 := Lib.hid hRS0
 have HF := Lib.hid hF0
 have HBX := Lib.hid hbxd
 have HB0 := Lib.hid hbx
 have HW0 := Lib.hid hw0
 have HP := Lib.hid h.p
 have HVL := Lib.hid hvl
 clear hsk h1 hF hF0 hbxd hbx hRS0 hbox hvl h
 refine callsIn_of_wp_marks Tryz.func147 rfl trivial ?_ rfl
 simp only [Tryz.ntmps147, List.size_toArray, List.length_cons, List.length_nil, Nat.reduceAdd, Nat.reduceSub, Array.replicate_succ, Array.replicate_zero, List.push_toArray, List.append_toArray, List.nil_append, List.cons_append]
 gi_wp2_with fail
 rename_i K1 hK1 K2 hK2 K3 hK3
 rw [← hw0]
 clear hw0
 have HT : ∀ (W : World) (r1 : BRd) (v1 pv : Value) (p1 : List Int) (u7 u8 u9 u10 u11 u12 u13 u14 u15 u16 : Value),
   RS w0 b s v pv p1 W r1 v1 → RI s (rowP s f) r.g r1 p1 r1 p1 (s.length + 1) →
   rowP s (f + 1) r = (match itemsP s (rowP s f) (s.length + 1) r1 p1 with
    | .error e => .error e
    | .ok (ps, q) => match ps.reverse with
     | [] => .ok (false, q)
     | b :: tl => .ok (true, catsP tl q b)) →
   K1 { tmps := #[.pointer (some ⟨b, 0, none⟩), .pointer (some ⟨w.heap.size, 0, none⟩), .bool false, pv, undef, undef, undef, u7, u8, u9, u10, u11, u12, u13, u14, u15, u16, undef, undef, undef, undef, undef, undef, undef, undef, undef, undef, undef, undef, undef, undef, undef, undef, undef, undef, undef, undef, undef, undef, undef, undef, undef, undef, undef, undef, undef, undef], defers := [] } W := by
  intro W r1 v1 pv p1 u7 u8 u9 u10 u11 u12 u13 u14 u15 u16 hR hI hE
  have HR1 := Lib.hid hR
  have HI1 := Lib.hid hI
  have HE := Lib.hid hE
  clear hR hI hE HS H1
  refine hK1 _ _ ?_
  have HSZ := Lib.hid hsz
  clear hK1 hK2 hK3 K2 K3 hsz
  gi_wp2_with fail
  gi_loopw [3] (fun pv wr => ∃ (q : BRd) (v1 : Value) (ps : List Int) (fu : Nat), RS w0 b s v pv ps wr q v1 ∧ RI s (rowP s f) r.g r1 p1 q ps fu) (fun _ wr => s.length - placeIn b wr)
  case atStart => exact ⟨_, _, _, _, HR1.out, HI1.out⟩
  case round =>
   obtain ⟨q, v2, ps, fu, hR, hI⟩ := hrel
   have hbx := HBX.out _ _ _ _ _ hR
   have hbc := hbx.cell
   have hpl := hR.place
   have HEN := Lib.hid (ends_c wr hR.x)
   have hqp := hR.x.p
   have HR := Lib.hid hR
   have HI := Lib.hid hI
   clear hbx hR hI
   gi_wp2_with fail
   (try refine ⟨trivial, ?_⟩)
   gi_at_call 169
   refine (callsIn_wide.2 HEN.out).mono ?_
   rintro e wa ⟨rfl, hBa⟩
   have hR := HR.out.below hBa
   clear HEN HR hbc
   have hbx := HBX.out _ _ _ _ _ hR
   have hbc := hbx.cell
   clear hbx
   cases hen' : endsP s q.p with
   | false =>
    have hql := endsP_not hqp hen'
    have hit := item_c (rowP s f) (fun hg => hrow _ HI.out.g hg) HI.out.g9 hql wa hR.x (HF.out.step hR.k)
    have HIT := Lib.hid hit
    have HR := Lib.hid hR
    have HEN := Lib.hid hen'
    clear hit hR hen'
    gi_wp2_with fail
    (try refine ⟨trivial, ?_⟩)
    gi_at_call 170
    refine (callsIn_wide.2 HIT.out).mono ?_
    intro e wc hout
    unfold ROut at hout
    cases hir : itemP s (rowP s f) q with
    | error er =>
     obtain ⟨z, a⟩ := er
     rw [hir] at hout
     obtain ⟨rfl, v3, k3⟩ := hout
     have hr : rowP s (f + 1) r = .error (z, a) := by rw [HE.out, HI.out.err HEN.out hir hqp]
     have HRR := Lib.hid (ROut.no (s := s) (val := fun any : Bool => .bool any) hr ((RK.below HB0.out).trans (HR.out.k.trans k3)))
     unfold Pan at HRR ⊢
     clear hrow hok HIT HEN HE
     gi_wp2
     exact HRR.out
    | ok iq =>
     obtain ⟨i, q'⟩ := iq
     rw [hir] at hout
     obtain ⟨rfl, v3, x3, k3⟩ := hout
     have G := (itemP_goes (row := rowP s f) hql HR.out.x.l HI.out.g9 (fun q2 e hg => by rw [e] at hg ⊢; exact hok _ HI.out.g hg)).2 i q' hir
     have hI' := HI.out.next HEN.out hir G hqp
     have hR' := HR.out.step x3 k3
     have hGp := G.p
     have HI' := Lib.hid hI'
     have HR' := Lib.hid hR'
     have HOW := Lib.hid (hR'.own.alloc (.cells #[.int .i64 i] 3))
     have hle := hR'.k.k.size
     have hnn := hI'.n
     have hqs := x3.p
     have hss := x3.s
     clear hI' hR' G HIT HEN HE hrow hok x3 k3
     gi_wp2_with (gi_at_builtin; refine wpListIn_append_own_at _ rfl _ _ 53 rfl w0.heap.size 3 i0 (.int .i64 0) 1 8 Tryz.underlying53 hi hz0 hz1 hz2 rfl (by decide) _ _ _ rfl HOW.out ⟨wc.heap.size, 0, none⟩ 1 1 [.int .i64 i] rfl rfl ?q2 ?q3 ?q4 ?q5 ?q6 ?_)
     case q2 => exact cell_one_new _ _ _
     case q3 => simp [Value.oneCell']
     case q4 => unfold maxLen; simp at hnn; omega
     case q5 => simp at hnn; omega
     case q6 => simp; omega
     intro pv' w5 hown5 hgrow5 _ hat5
     have hA := (HR'.out.alloc (.cells #[.int .i64 i] 3)).app i hgrow5 hown5 (by rw [World.size_alloc]; exact hat5)
     have HA := Lib.hid hA
     clear hown5 hgrow5 hat5 hA HOW HR'
     gi_wp2_with fail
     go_roundw
     case rel => exact ⟨_, _, _, _, HA.out, HI'.out⟩
     case measure => rw [HA.out.place, hpl]; omega
   | true =>
    have hE2 := HE.out
    rw [HI.out.done hen' hqp] at hE2
    have hRK := (RK.below HB0.out).trans hR.k
    have HRK := Lib.hid hRK
    have hx := hR.x
    have HX := Lib.hid hx
    have hnn := HI.out.n
    have hss := hx.s
    clear hen' hrow hok HF HE HI hRK hx HR1 HI1
    rcases List.eq_nil_or_concat ps with rfl | ⟨l, z, hcc⟩
    ·have hr : rowP s (f + 1) r = .ok (false, q) := hE2
     have HRR := Lib.hid (ROut.yes (val := fun any : Bool => .bool any) hr HX.out HRK.out)
     obtain ⟨o, cap, rfl⟩ := hR.slice
     clear hr hE2 hR
     gi_wp2
     exact ⟨.bool false, by simp [results, Tryz.results147, go_sem], HRR.out⟩
    ·rw [List.concat_eq_append] at hcc
     subst hcc
     have hr : rowP s (f + 1) r = .ok (true, catsP l.reverse q z) := by rw [hE2]; simp
     obtain ⟨g, cap, rfl, hcp⟩ : ∃ g cap, u3 = .slice (some ⟨g, 0, none⟩) (l.length + 1) cap ∧ l.length + 1 ≤ cap := by
      rcases hR.own.2 with ⟨e, h0⟩ | ⟨g, cap, cur, e, _, _, hc, _⟩
      ·simp at h0
      ·exact ⟨g, cap, by simpa using e, by simpa using hc⟩
     have hints := hR.ints rfl
     have hcz := hints.cell l.length (by simp)
     rw [show (l ++ [z]).getD l.length 0 = z by simp] at hcz
     have hgl := hR.own.lt g rfl
     have HRd := Lib.hid hR
     have HIn := Lib.hid hints
     have HR2 := Lib.hid hr
     obtain ⟨m, hm⟩ : ∃ m, m = l.length := ⟨_, rfl⟩
     rw [← hm] at hcz hcp ⊢
     have hm2 : m ≤ 100001 := by simp at hnn; omega
     have HM := Lib.hid hm
     clear hR hints hr hE2 hnn hm
     have ew : IntKind.i64.wrap ((m : Int) + 1 - 1) = (m : Int) := by simp [IntKind.wrap, IntKind.signed, IntKind.bits]; omega
     have hz : ((m : Int) + 1 == 0) = false := by simp; omega
     have hcc2 : (0 : Int) ≤ (m : Int) ∧ (m : Int) ≤ (cap : Int) := by omega
     have hbc0 : (0 : Int) ≤ (m : Int) ∧ (m : Int) < (m : Int) + 1 := by omega
     have HBK := Lib.hid (fun (w : World) => back_c (some ⟨g, 0, none⟩) m cap w)
     gi_wp2_with fail
     (try refine ⟨trivial, ?_⟩)
     gi_at_call 101
     refine (callsIn_wide.2 (HBK.out _)).mono ?_
     rintro e wd ⟨rfl, rfl⟩
     clear HBK
     gi_wp2_with fail
     have hvlw := HVL.out
     have hR := HRd.out
     have hal : wa.heap.size < (wa.alloc (.cells #[.int .i64 z] 3)).heap.size := by simp
     have hRL := (hR.alloc (.cells #[.int .i64 z] 3)).alloc (.cells #[.slice (some ⟨g, 0, none⟩) m cap] 53)
     have hBL := HBX.out _ _ _ _ _ hRL
     have hb4L := (Boxed.new wa 3 (.int .i64 z)).alloc (.cells #[.slice (some ⟨g, 0, none⟩) m cap] 53)
     have hb5L := Boxed.new (wa.alloc (.cells #[.int .i64 z] 3)) 53 (.slice (some ⟨g, 0, none⟩) m cap)
     have hs0 := hR.k.k.size
     rw [World.size_alloc] at hb5L
     have hgl2 : w0.heap.size ≤ g ∧ g < wa.heap.size := hgl
     have hv2l : ∀ j, v2.ownBlock = some j → j < wa.heap.size := fun j e => (hR.x.row.lt j e).2
     have hv2g := hR.ne g rfl
     have hwl := HSZ.out
     obtain ⟨wL, hwL⟩ : ∃ wL, wL = (wa.alloc (.cells #[.int .i64 z] 3)).alloc (.cells #[.slice (some ⟨g, 0, none⟩) m cap] 53) := ⟨_, rfl⟩
     have hsL : wL.heap.size = wa.heap.size + 1 + 1 := by rw [hwL]; simp
     have hgL : wL.heap[g]? = wa.heap[g]? := by
      rw [hwL]; exact (Below.heap_alloc _ _ _ (by simp; omega)).trans (Below.heap_alloc _ _ _ (by omega))
     have hIL : Ints wL g m (l ++ [z]) := by
      obtain ⟨cs, T, fl, h1, h2⟩ := HIn.out
      exact ⟨cs, T, fl, hgL.trans h1, fun j hj => h2 j (by simp; have := HM.out; omega)⟩
     rw [← hwL] at hRL hBL hb4L hb5L ⊢
     have hv2B : v2.ownBlock ≠ some w.heap.size := fun e => by
      rcases hR.k.v with t | ⟨j, t, hj⟩
      ·rw [t] at e; have := hvlw _ e; omega
      ·rw [t] at e; have := Option.some.inj e; omega
     have CTL : CT wL b w.heap.size wa.heap.size (wa.heap.size + 1) g v2 := by
      refine ⟨by omega, by omega, by omega, by omega, by omega, by omega, ⟨by omega, by omega⟩, ⟨by omega, by omega⟩, ⟨by omega, by omega⟩, fun j e => ?_⟩
      have := hv2l j e
      exact ⟨by omega, fun t => hv2B (t ▸ e), by omega, by omega, fun t => hv2g (t ▸ e)⟩
     have CS0 : CS wL b w.heap.size wa.heap.size s v2 (q, z) [] v2 wL := ⟨hRL.x, ⟨⟨rfl, rfl, rfl, Nat.le_refl _, fun _ _ _ => rfl⟩, .inl rfl⟩, hb4L, hBL⟩
     have hBwa : Below wa.heap.size wa wL := by rw [hwL]; exact ((Below.refl _ wa).alloc (Nat.le_refl _) _).alloc (by simp) _
     have HRK2 := Lib.hid (HRK.out)
     have HCM := Lib.hid (catX_bkd l z q)
     clear hwL HRK hgL hBL hb4L hRL hcz ew hz hbc0 hcc2 hss hcp hR hgl hgl2 hv2B hv2g hv2l hvlw hs0 hal HRd HIn HX hpl
     refine wpIn_rangeFunc_ownG rfl (by omega) (gf := 127) (lb := #[.pointer (some ⟨wa.heap.size + 1, 0, none⟩)]) rfl trivial (enters_of Tryz.func127 (by kernel_rfl) rfl)
      (back_stops (5 - 1) (by omega) (wa.heap.size + 1) g m cap (l ++ [z]) (by omega) wL hb5L hIL CTL.lg) (fun h k => h.trans k) (hold2_b CTL.l5 CTL.lg) (Below.refl _ _) (fun _ => rfl)
      (fun pre W => ∃ v', CS wL b w.heap.size wa.heap.size s v2 (q, z) pre v' W)
      (fun _ _ _ => False)
      CS.own
      (fun _ _ _ _ _ hs _ _ => hs)
      ⟨_, CS0⟩
      (fun x => { tmps := #[.pointer (some ⟨b, 0, none⟩), .pointer (some ⟨w.heap.size, 0, none⟩), .bool false, .slice (some ⟨g, 0, none⟩) (m + 1) cap, .pointer (some ⟨wa.heap.size, 0, none⟩), undef, .int .i64 x.2, u7, u8, u9, u10, u11, u12, u13, u14, u15, u16, .pointer (some ⟨b, 0, none⟩), .bool true, .bool false, u20, u21, u22, u23, u24, .slice (some ⟨g, 0, none⟩) (m + 1) cap, .int .i64 ((m : Int) + 1), .bool false, .slice (some ⟨g, 0, none⟩) (m + 1) cap, .slice (some ⟨g, 0, none⟩) (m + 1) cap, .int .i64 ((m : Int) + 1), .int .i64 (m : Int), .pointer (some ⟨g, m, none⟩), .int .i64 z, .slice (some ⟨g, 0, none⟩) (m + 1) cap, .slice (some ⟨g, 0, none⟩) (m + 1) cap, .int .i64 ((m : Int) + 1), .int .i64 (m : Int), .slice (some ⟨g, 0, none⟩) m cap, .func (.func 127) #[] #[.pointer (some ⟨wa.heap.size + 1, 0, none⟩)], .int .i64 (x.1 : Int), .int .i64 x.2, undef, undef, undef, undef, undef], defers := [] }) ?assign ?body ?done ?stop
     case assign =>
      intro lp x W K hK
      gi_wp2
      exact hK
     case body =>
      rintro lp pre x W ⟨v', hCS⟩ hlt
      have hc1 := hCS.b1.cell
      have hc4 := hCS.b4.cell
      have hp := rput_c ⟨4, 0, 0, 0, 0, x.2, (catX (q, z) pre).2, 0, 0, 0⟩ W hCS.x
      simp only at hp
      have HPT := Lib.hid hp
      have HCS := Lib.hid hCS
      have HCT := Lib.hid CTL
      have HSL := Lib.hid hsL
      clear hp hCS CTL CS0 hsL hb5L hIL hBwa HCM
      gi_wp2_with fail
      (try refine ⟨trivial, ?_⟩)
      gi_at_call 146
      refine (CallsIn.inRound lp (callsIn_wide.2 HPT.out)).mono ?_
      rintro e w5 ⟨rfl, v5, x5, k5⟩
      have hb45 : Boxed w5 wa.heap.size 3 (.int .i64 (catX (q, z) pre).2) := (k5.k.block _ HCS.out.b4.lt (fun e => by
       rcases e with e | e
       ·exact HCT.out.b4 e.symm
       ·exact (HCS.out.k.ne HCT.out).2.1 e)).trans HCS.out.b4
      have hc45 := hb45.cell
      have hf45 := hb45.frozen
      have hN := CS.next HCT.out HCS.out x (by rw [catX_next]; exact x5) k5
      rw [catX_next] at hN
      have HN := Lib.hid hN
      clear hN x5 k5 hb45 HPT
      gi_wp2
      exact HN.out
     case done =>
      rintro D ys W hD rfl ⟨v', hCS⟩ hK
      have hG := hCS.grown (grownBy_putObj' W D (.deferred none)) (fun r e => by cases e; exact ⟨hD, _, hK, rfl⟩)
      have hx := hG.x
      rw [HM.out, HCM.out] at hx
      have hRKL : RK wa b v2 (W.putObj D (.deferred none)) v' := by
       refine ⟨⟨hG.k.k.os.trans hBwa.os, hG.k.k.tape.trans hBwa.tape, hG.k.k.output.trans hBwa.output, by have := hG.k.k.size; omega, fun k hk hs => (hG.k.k.block k (by omega) (fun e => by
        rcases e with e | e
        ·exact hs e
        ·omega)).trans (hBwa.block k hk)⟩, ?_⟩
       rcases hG.k.v with t | ⟨j, t, hj⟩
       ·exact .inl t
       ·exact .inr ⟨j, t, by omega⟩
      have HRR := Lib.hid (ROut.yes (val := fun any : Bool => .bool any) HR2.out hx (HRK2.out.trans hRKL))
      clear hx hRKL hG hCS CTL CS0 hsL hb5L hIL hBwa HCM
      gi_wp2
      refine ⟨by simp, .inl ⟨_, _, rfl, run_takeDeferred hK, ?_⟩⟩
      exact ⟨.bool true, by simp [results, Tryz.results147, go_sem], HRR.out⟩
     case stop =>
      rintro D c pre W _ _ h _
      exact h.elim
 (try refine ⟨trivial, ?_⟩)
 gi_at_call 142
 refine (callsIn_wide.2 HS.out).mono ?_
 rintro e w1 ⟨rfl, hm⟩
 have hRS0 := H1.out
 have hx1 := hRS0.x.mv hm
 have hk1 := RK.mv (v := v) hm
 have hrp := HP.out
 cases ha : ah s r.p [94] with
 | false =>
  rw [sk_no ha] at hx1
  have hx1 : RX w1 b s r v := hx1
  have hRS := hRS0.step hx1 hk1
  have hE : rowP s (f + 1) r = (match itemsP s (rowP s f) (s.length + 1) r [] with
    | .error e => .error e
    | .ok (ps, q) => match ps.reverse with
     | [] => .ok (false, q)
     | b :: tl => .ok (true, catsP tl q b)) := by
   rw [rowP, ha]; rfl
  have hRI : RI s (rowP s f) r.g r [] r [] (s.length + 1) := ⟨rfl, by omega, by simp, Nat.le_refl _, hen⟩
  have HA := Lib.hid hRS
  have HB := Lib.hid hE
  have HC := Lib.hid hRI
  clear hRS hE hRI hx1 hk1 hRS0 hm ha
  gi_wp2
  exact HT _ _ _ _ _ _ _ _ _ _ _ _ _ _ _ HA.out HC.out HB.out
 | true =>
  rw [sk_yes ha] at hx1
  have hx1 : RX w1 b s (r.to (r.p + 1)) v := hx1
  have hRS := hRS0.step hx1 hk1
  obtain ⟨r1, hr1⟩ : ∃ r1, r1 = (r.to (r.p + 1)).put (kindNd 2) := ⟨_, rfl⟩
  have hE : rowP s (f + 1) r = (match itemsP s (rowP s f) (s.length + 1) r1 [(r1.l.length : Int) - 1] with
    | .error e => .error e
    | .ok (ps, q) => match ps.reverse with
     | [] => .ok (false, q)
     | b :: tl => .ok (true, catsP tl q b)) := by
   rw [rowP, ha, hr1]; rfl
  have hRI : RI s (rowP s f) r.g r1 [(r1.l.length : Int) - 1] r1 [(r1.l.length : Int) - 1] (s.length + 1) := ⟨rfl, by omega, by simp, by rw [hr1]; exact Nat.le_refl _, by rw [hr1]; exact hen⟩
  have hp := rput_c (kindNd 2) w1 hx1
  rw [← hr1] at hp
  have hbc := (HBX.out _ _ _ _ _ hRS).cell
  have HPT : Hid (Calls Tryz.prog 146 #[.pointer (some ⟨b, 0, none⟩), .agg #[.int .i64 2, .int .u64 0, .int .u64 0, .int .u64 0, .int .u64 0, .int .i64 0, .int .i64 0, .int .i64 0, .int .i64 0, .int .i64 0]] w1 fun e w' => e = .returned (.int .i64 ((r1.l.length : Int) - 1)) ∧ ∃ v', RX w' b s r1 v' ∧ RK w1 b v w' v') := Lib.hid hp
  have HA := Lib.hid hRS
  have HB := Lib.hid hE
  have HC := Lib.hid hRI
  clear hRS hE hRI hx1 hk1 hRS0 hm ha hp hr1
  gi_wp2_with fail
  (try refine ⟨trivial, ?_⟩)
  gi_at_call 146
  refine (callsIn_wide.2 HPT.out).mono ?_
  rintro e wc ⟨rfl, v3, x3, k3⟩
  have hR' := HA.out.step x3 k3
  have HR' := Lib.hid hR'
  have HOW := Lib.hid (hR'.own.alloc (.cells #[.int .i64 ((r1.l.length : Int) - 1)] 3))
  have hle := hR'.k.k.size
  have HSZ := Lib.hid hsz
  clear hR' x3 k3 HPT hbc hsz
  gi_wp2_with (gi_at_builtin; refine wpListIn_append_own_at _ rfl _ _ 53 rfl w0.heap.size 3 i0 (.int .i64 0) 1 8 Tryz.underlying53 hi hz0 hz1 hz2 rfl (by decide) _ _ _ rfl HOW.out ⟨wc.heap.size, 0, none⟩ 1 1 [.int .i64 ((r1.l.length : Int) - 1)] rfl rfl ?q2 ?q3 ?q4 ?q5 ?q6 ?_)
  case q2 => exact cell_one_new _ _ _
  case q3 => simp [Value.oneCell']
  case q4 => simp [maxLen]
  case q5 => simp
  case q6 => simp; omega
  intro pv' w5 hown5 hgrow5 _ hat5
  have hA := (HR'.out.alloc (.cells #[.int .i64 ((r1.l.length : Int) - 1)] 3)).app ((r1.l.length : Int) - 1) hgrow5 hown5 (by rw [World.size_alloc]; exact hat5)
  have HAA := Lib.hid hA
  clear hown5 hgrow5 hat5 hA HOW HR'
  gi_wp2
  exact HT _ _ _ _ _ _ _ _ _ _ _ _ _ _ _ HAA.out HC.out HB.out
end
theorem row_c (b : Nat) (s : List UInt8) : ∀ f g, 9 < f + g → g ≤ 9 → RowC b s g (rowP s f)
 | 0, g, h, hg => by omega
 | f + 1, g, h, hg => fun w r v hx hF e => by
  subst e
  exact (callsIn_wide (n := 5)).1 (row_in f (fun k h1 h2 => row_c b s f (k + 1) (by omega) (by omega)) (fun k h1 h2 => rowP_ok s f (k + 1) (by omega) (by omega)) hg w hx hF)
theorem row_all (s : List UInt8) (b : Nat) : RowC b s 0 (rowP s 10) := row_c b s 10 0 (by omega) (by omega)
end Go.Proofs.YtdjcgjkbecncaaaGreatDoor
namespace Go.Proofs.YtdjcgjkbecncaaaGreatDoor
open Go.RowKit
theorem bparse_c (s : List UInt8) (hs : s.length ≤ 100000) (w : World) (hm : MaxL w) (hy : SynV w) :
  Calls Tryz.prog 99 #[.string ⟨s.toArray⟩] w fun e w' => POut w s e w' ∧ Below w.heap.size w w' :=
 parse_c s hs (row_all s) w hm hy
end Go.Proofs.YtdjcgjkbecncaaaGreatDoor
