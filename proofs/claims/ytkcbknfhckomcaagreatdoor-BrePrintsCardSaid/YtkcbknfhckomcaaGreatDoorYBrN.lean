/- A reader: its variable; where a row ends, where a number of times begins. -/
import Derived.Test.YtkcbknfhckomcaaGreatDoorYBrC
import Derived.Test.YtkcbknfhckomcaaGreatDoorYRxTd
import Derived.Deep.AppendLies
import Derived.Test.YtkcbknfhckomcaaGreatDoorYRxD
set_option linter.unusedVariables false
set_option linter.unusedSimpArgs false
set_option maxRecDepth 100000
set_option maxHeartbeats 40000000
namespace Go.Proofs.YtkcbknfhckomcaaGreatDoor
open Go.RowKit
def rcells (s : List UInt8) (r : BRd) (v : Value) : Array Value := #[.string ⟨s.toArray⟩, .int .i64 (r.p : Int), v, .int .i64 (r.g : Int), .bool (r.en 0), .bool (r.en 1), .bool (r.en 2), .bool (r.en 3), .bool (r.en 4), .bool (r.en 5), .bool (r.en 6), .bool (r.en 7), .bool (r.en 8), .bool (r.en 9)]
structure RX (w : World) (b : Nat) (s : List UInt8) (r : BRd) (v : Value) : Prop where
 heap : w.heap[b]? = some (.cells (rcells s r v) 52 (0, 0))
 row : w.ownsRow 0 40 10 v r.l.length (flat r.l)
 ob : v.ownBlock ≠ some b
 p : r.p ≤ s.length
 s : s.length ≤ 100000
 l : r.l.length ≤ 121
structure RK (w : World) (b : Nat) (v : Value) (w' : World) (v' : Value) : Prop where
 k : But (fun k => k = b ∨ v.ownBlock = some k) w w'
 v : v'.ownBlock = v.ownBlock ∨ ∃ k, v'.ownBlock = some k ∧ w.heap.size ≤ k
section
variable {w w1 w' : World} {b : Nat} {s : List UInt8} {r r' : BRd} {v v1 v' : Value}
theorem RX.tx (h : RX w b s r v) : TX w b 52 (rcells s r v) s r.p := ⟨h.heap, rfl, rfl, h.p, h.s⟩
theorem RX.lt (h : RX w b s r v) : b < w.heap.size := (Array.getElem?_eq_some_iff.1 h.heap).1
theorem RX.cell (h : RX w b s r v) (j : Nat) : w.cell? ⟨b, j, none⟩ = (rcells s r v)[j]? := cell_of _ _ _ _ h.heap j
theorem RX.fz (h : RX w b s r v) (j : Nat) : w.frozen? ⟨b, j, none⟩ = false := frozen_of _ _ _ _ h.heap j
theorem RX.mv (h : RX w b s r v) {k : Nat} (m : Mv w b 52 (rcells s r v) s k w') : RX w' b s (r.to k) v :=
 ⟨m.x.heap.trans (by rfl), h.row.kept m.g (.inr h.ob), h.ob, m.x.p, h.s, h.l⟩
theorem RX.below (h : RX w b s r v) (hB : Below w.heap.size w w') : RX w' b s r v :=
 ⟨(hB.block b h.lt).trans h.heap, h.row.kept (grownB (row := some b) hB) (.inr h.ob), h.ob, h.p, h.s, h.l⟩
theorem RK.refl : RK w b v w v := ⟨⟨rfl, rfl, rfl, Nat.le_refl _, fun _ _ _ => rfl⟩, .inl rfl⟩
theorem RK.trans (h : RK w b v w1 v1) (h' : RK w1 b v1 w' v') : RK w b v w' v' :=
 ⟨⟨h'.k.os.trans h.k.os, h'.k.tape.trans h.k.tape, h'.k.output.trans h.k.output, Nat.le_trans h.k.size h'.k.size, fun k hk hs => (h'.k.block k (Nat.lt_of_lt_of_le hk h.k.size) (fun q => by
  rcases q with q | q
  ·exact hs (.inl q)
  ·rcases h.v with e | ⟨m, e, hm⟩
   ·rw [e] at q; exact hs (.inr q)
   ·rw [e] at q; have := Option.some.inj q; omega)).trans (h.k.block k hk hs)⟩, by
  rcases h'.v with e | ⟨m, e, hm⟩
  ·rcases h.v with e2 | ⟨m, e2, hm⟩
   ·exact .inl (e.trans e2)
   ·exact .inr ⟨m, e.trans e2, hm⟩
  ·exact .inr ⟨m, e, Nat.le_trans h.k.size hm⟩⟩
theorem RK.mv {T : TypeId} {cs : Array Value} {k : Nat} (m : Mv w b T cs s k w') : RK w b v w' v := ⟨But.grown m.g (.inl rfl), .inl rfl⟩
theorem RK.below (hB : Below w.heap.size w w') : RK w b v w' v := ⟨But.below hB, .inl rfl⟩
end
section
variable {b : Nat} {s : List UInt8} {r : BRd} {v : Value}
theorem ends_c (w : World) (h : RX w b s r v) :
  Calls Tryz.prog 58 #[.pointer (some ⟨b, 0, none⟩)] w fun e w' => e = .returned (.bool (endsP s r.p)) ∧ Below w.heap.size w w' := by
 have HO := Lib.hid (over_c w h.tx)
 have HA := Lib.hid fun w1 (hB : Below w.heap.size w w1) => ahead_c [92, 41] w1 (h.tx.below hB)
 have hE : endsP s r.p = (decide (r.p = s.length) || ah s r.p [92, 41]) := rfl
 rw [hE]
 clear hE h
 generalize decide (r.p = s.length) = A at *
 generalize ah s r.p [92, 41] = B at *
 cases A with
 | true =>
  go_enter Tryz.func58, Tryz.ntmps58
  go_wp2_with fail
  refine HO.out.mono ?_
  rintro e w1 ⟨rfl, hB1⟩
  clear HO HA
  go_wp2
  go_ret
  exact ⟨rfl, hB1⟩
 | false =>
  go_enter Tryz.func58, Tryz.ntmps58
  go_wp2_with fail
  refine HO.out.mono ?_
  rintro e w1 ⟨rfl, hB1⟩
  go_wp2_with fail
  refine (HA.out w1 hB1).mono ?_
  rintro e w2 ⟨rfl, hB2⟩
  have hB := hB1.trans (hB2.mono hB1.size)
  clear HO HA hB1 hB2
  go_wp2
  go_ret
  exact ⟨by simp, hB⟩
theorem istimes_c (w : World) (h : RX w b s r v) :
  Calls Tryz.prog 85 #[.pointer (some ⟨b, 0, none⟩)] w fun e w' => e = .returned (.bool (isTimesP s r.p)) ∧ Below w.heap.size w w' := by
 have HO := Lib.hid (ahead_c [42] w h.tx)
 have HA := Lib.hid fun w1 (hB : Below w.heap.size w w1) => ahead_c [92, 123] w1 (h.tx.below hB)
 have hE : isTimesP s r.p = (ah s r.p [42] || ah s r.p [92, 123]) := rfl
 rw [hE]
 clear hE h
 generalize ah s r.p [42] = A at *
 generalize ah s r.p [92, 123] = B at *
 cases A with
 | true =>
  go_enter Tryz.func85, Tryz.ntmps85
  go_wp2_with fail
  refine HO.out.mono ?_
  rintro e w1 ⟨rfl, hB1⟩
  clear HO HA
  go_wp2
  go_ret
  exact ⟨rfl, hB1⟩
 | false =>
  go_enter Tryz.func85, Tryz.ntmps85
  go_wp2_with fail
  refine HO.out.mono ?_
  rintro e w1 ⟨rfl, hB1⟩
  go_wp2_with fail
  refine (HA.out w1 hB1).mono ?_
  rintro e w2 ⟨rfl, hB2⟩
  have hB := hB1.trans (hB2.mono hB1.size)
  clear HO HA hB1 hB2
  go_wp2
  go_ret
  exact ⟨by simp, hB⟩
theorem iscountb_c (m M : Int) (w : World) : Calls Tryz.prog 113 #[.int .i64 m, .int .i64 M] w fun e w' => e = .returned (.bool (isCountP m M)) ∧ w' = w := by
 obtain ⟨v, hv⟩ : ∃ v, v = isCountP m M := ⟨_, rfl⟩
 rw [← hv]
 have HV := Lib.hid hv
 clear hv
 go_enter Tryz.func113, Tryz.ntmps113
 go_wp2
 all_goals go_ret
 all_goals (refine ⟨congrArg (fun b => Ending.returned (Value.bool b)) (?_ : _ = v), rfl⟩; rw [HV.out]; clear HV; rw [Bool.eq_iff_iff]; simp only [isCountP]; (try split) <;> simp <;> omega)
end
end Go.Proofs.YtkcbknfhckomcaaGreatDoor
namespace Go.Proofs.YtkcbknfhckomcaaGreatDoor
open Go.RowKit
theorem cells_one (x : Nd) : ∀ u ∈ x.cells.toList, u.oneCell' = true := by
 intro u hu
 simp [Nd.cells] at hu
 rcases hu with rfl | rfl | rfl | rfl | rfl | rfl | rfl | rfl | rfl | rfl <;> rfl
theorem put_l {r : BRd} (x : Nd) (hc : r.l.length ≤ 120) : (r.put x).l = r.l ++ [x] := by
 show (if r.l.length ≤ 120 then r.l ++ [x] else r.l) = _
 rw [if_pos hc]
theorem put_len {r : BRd} (x : Nd) (hc : r.l.length ≤ 120) : (r.put x).l.length = r.l.length + 1 := by rw [put_l x hc]; simp
theorem put_full {r : BRd} (x : Nd) (hc : ¬ r.l.length ≤ 120) : r.put x = r := by
 unfold BRd.put
 rw [if_neg hc]
theorem But.row {S : Nat → Prop} {w w' : World} {row : Option Nat} (h : w.grownBy w' row) (hS : ∀ k, row = some k → S k) : But S w w' :=
 ⟨h.os, h.tape, h.output, h.size, fun k hk hs => h.block k hk (fun e => hs (hS k e.symm))⟩
theorem RX.slice {w : World} {b : Nat} {s : List UInt8} {r : BRd} {v : Value} (h : RX w b s r v) : ∃ o cap, v = .slice o r.l.length cap := by
 rcases h.row.2 with ⟨e, h0⟩ | ⟨g, cap, cur, e, _⟩
 ·exact ⟨none, 0, by rw [e, h0]⟩
 ·exact ⟨_, cap, e⟩
theorem put_fin {w WA w3 : World} {b g cap3 H : Nat} {s : List UInt8} {r : BRd} {v : Value} (x : Nd) (h : RX w b s r v) (hgrow : WA.grownBy w3 v.ownBlock) (hH : WA.heap.size = H) (hb3 : w3.heap[b]? = some (.cells (rcells s r v) 52 (0, 0)))
  (hown : w3.ownsRow 0 40 10 (.slice (some ⟨g, 0, none⟩) (r.l.length + 1) cap3) (r.l.length + 1) (flat r.l ++ x.cells.toList)) (hgb : g ≠ b) (hat : v.ownBlock = some g ∨ w.heap.size ≤ g) (hwa : Below w.heap.size w WA) (hc : r.l.length ≤ 120) :
  RX (w3.setCell ⟨b, 2, none⟩ (.slice (some ⟨g, 0, none⟩) (r.l.length + 1) cap3)) b s (r.put x) (.slice (some ⟨g, 0, none⟩) (r.l.length + 1) cap3) ∧ RK w b v (w3.setCell ⟨b, 2, none⟩ (.slice (some ⟨g, 0, none⟩) (r.l.length + 1) cap3)) (.slice (some ⟨g, 0, none⟩) (r.l.length + 1) cap3) := by
 have hfl : flat (r.l ++ [x]) = flat r.l ++ x.cells.toList := by simp [flat]
 have gr0 : w3.grownBy w3 (some b) := ⟨rfl, rfl, rfl, Nat.le_refl _, fun _ _ _ => rfl⟩
 have gr := grown_setc gr0 2 (.slice (some ⟨g, 0, none⟩) (r.l.length + 1) cap3)
 have hob : (Value.slice (some ⟨g, 0, none⟩) (r.l.length + 1) cap3).ownBlock = some g := rfl
 refine ⟨⟨?_, ?_, ?_, h.p, h.s, ?_⟩, ⟨?_, ?_⟩⟩
 ·rw [heap_setCell_same _ b 2 _ _ _ hb3]; rfl
 ·rw [put_l x hc, hfl, List.length_append]
  exact hown.kept gr (.inr (by rw [hob]; simpa using hgb))
 ·rw [hob]; simpa using hgb
 ·rw [put_len x hc]; omega
 ·exact ((But.below hwa).trans (But.row hgrow (fun k e => .inr e))).setCell (p := ⟨b, 2, none⟩) (.inl rfl) _
 ·rw [hob]
  rcases hat with e | e
  ·exact .inl e.symm
  ·exact .inr ⟨g, rfl, e⟩
section
variable {b : Nat} {s : List UInt8} {r : BRd} {v : Value}
theorem rput_c (x : Nd) (w : World) (h : RX w b s r v) :
  Calls Tryz.prog 36 #[.pointer (some ⟨b, 0, none⟩), .agg #[.int .i64 x.kind, .int .u64 x.w0, .int .u64 x.w1, .int .u64 x.w2, .int .u64 x.w3, .int .i64 x.a, .int .i64 x.b, .int .i64 x.mn, .int .i64 x.mx, .int .i64 x.n]] w fun e w' => e = .returned (.int .i64 (((r.put x).l.length : Int) - 1)) ∧ ∃ v', RX w' b s (r.put x) v' ∧ RK w b v w' v' := by
 obtain ⟨i0, hi, hz0, hz1, hz2⟩ := info_parts infoNd
 obtain ⟨o, cap, rfl⟩ := h.slice
 have hlt := h.lt
 have hl := h.l
 have hbx : Below w.heap.size w (w.alloc (.cells #[.int .i64 x.kind, .int .u64 x.w0, .int .u64 x.w1, .int .u64 x.w2, .int .u64 x.w3, .int .i64 x.a, .int .i64 x.b, .int .i64 x.mn, .int .i64 x.mx, .int .i64 x.n] 40)) := (Below.refl _ w).alloc (Nat.le_refl _) _
 have h1 := h.below hbx
 have d2 : w.cell? ⟨b, 2, none⟩ = some (.slice o r.l.length cap) := (h.cell 2).trans rfl
 have e2 := h.fz 2
 by_cases hc : r.l.length ≤ 120
 ·have g1 : ((r.l.length : Int) ≤ 120) = True := by simp; omega
  have hbA : Below w.heap.size w (((w.alloc (.cells #[.int .i64 x.kind, .int .u64 x.w0, .int .u64 x.w1, .int .u64 x.w2, .int .u64 x.w3, .int .i64 x.a, .int .i64 x.b, .int .i64 x.mn, .int .i64 x.mx, .int .i64 x.n] 40)).alloc (.cells #[.int .i64 x.kind, .int .u64 x.w0, .int .u64 x.w1, .int .u64 x.w2, .int .u64 x.w3, .int .i64 x.a, .int .i64 x.b, .int .i64 x.mn, .int .i64 x.mx, .int .i64 x.n] 40)).drew) := (hbx.alloc hbx.size _).drew
  have hA := h.below hbA
  have hce : ∀ j u, x.cells.toList[j]? = some u → (((w.alloc (.cells #[.int .i64 x.kind, .int .u64 x.w0, .int .u64 x.w1, .int .u64 x.w2, .int .u64 x.w3, .int .i64 x.a, .int .i64 x.b, .int .i64 x.mn, .int .i64 x.mx, .int .i64 x.n] 40)).alloc (.cells #[.int .i64 x.kind, .int .u64 x.w0, .int .u64 x.w1, .int .u64 x.w2, .int .u64 x.w3, .int .i64 x.a, .int .i64 x.b, .int .i64 x.mn, .int .i64 x.mx, .int .i64 x.n] 40)).drew).cell? ((⟨w.heap.size + 1, 0, none⟩ : Addr).add j) = some u := fun j u hj => by
   have hh : (((w.alloc (.cells #[.int .i64 x.kind, .int .u64 x.w0, .int .u64 x.w1, .int .u64 x.w2, .int .u64 x.w3, .int .i64 x.a, .int .i64 x.b, .int .i64 x.mn, .int .i64 x.mx, .int .i64 x.n] 40)).alloc (.cells #[.int .i64 x.kind, .int .u64 x.w0, .int .u64 x.w1, .int .u64 x.w2, .int .u64 x.w3, .int .i64 x.a, .int .i64 x.b, .int .i64 x.mn, .int .i64 x.mx, .int .i64 x.n] 40)).drew).heap[w.heap.size + 1]? = some (.cells x.cells 40 (0, 0)) := by
    have := heap_new (w.alloc (.cells #[.int .i64 x.kind, .int .u64 x.w0, .int .u64 x.w1, .int .u64 x.w2, .int .u64 x.w3, .int .i64 x.a, .int .i64 x.b, .int .i64 x.mn, .int .i64 x.mx, .int .i64 x.n] 40)) (.cells #[.int .i64 x.kind, .int .u64 x.w0, .int .u64 x.w1, .int .u64 x.w2, .int .u64 x.w3, .int .i64 x.a, .int .i64 x.b, .int .i64 x.mn, .int .i64 x.mx, .int .i64 x.n] 40)
    rw [World.size_alloc] at this
    exact this
   rw [Addr.add_lit, Nat.zero_add, cell_of _ _ _ _ hh]
   simpa using hj
  have HOA := Lib.hid hA.row
  have HBA := Lib.hid hA.heap
  have HCE := Lib.hid hce
  have HKA := Lib.hid hbA
  have H := Lib.hid h
  clear h h1 hA hce hbA hbx
  go_enter Tryz.func36, Tryz.ntmps36
  go_wp2_with fail
  refine wp_region_held_drew (S := fun _ => True) (by kernel_rfl) trivial (fun _ => ?_)
  refine wpAnyH_take (i := 0) (v := ?_) rfl (by kernel_rfl) (by kernel_rfl) (by kernel_rfl) (fun _ _ _ h => h) (Or.inl ⟨by kernel_rfl, ?_⟩) (by trivial) ?_
  rotate_left
  ·(intro w hSw; (try dsimp only at hSw); go_simp); (try with_reducible rfl)
  try simp only [Act.put, laS]
  refine wpAnyH_take (i := 1) (v := ?_) rfl (by kernel_rfl) (by kernel_rfl) (by kernel_rfl) (fun _ _ _ h => h) (Or.inl ⟨by kernel_rfl, ?_⟩) (by trivial) ?_
  rotate_left
  ·(intro w hSw; (try dsimp only at hSw); go_simp); (try with_reducible rfl)
  try simp only [Act.put, laS]
  refine wpAnyH_take (i := 2) (v := ?_) rfl (by kernel_rfl) (by kernel_rfl) (by kernel_rfl) (fun _ _ _ h => h) (Or.inl ⟨by kernel_rfl, ?_⟩) (by trivial) ?_
  rotate_left
  ·(intro w hSw; (try dsimp only at hSw); go_simp); (try with_reducible rfl)
  try simp only [Act.put, laS]
  refine wpAnyH_take (i := 3) (v := ?_) rfl (by kernel_rfl) (by kernel_rfl) (by kernel_rfl) (fun _ _ _ h => h) (Or.inl ⟨by kernel_rfl, ?_⟩) (by trivial) ?_
  rotate_left
  ·(intro w hSw; (try dsimp only at hSw); go_simp); (try with_reducible rfl)
  try simp only [Act.put, laS]
  refine wpAnyH_ready (rs := [4, 5]) (by kernel_rfl) (by simp) ?_
  refine AllReadyH.cons rfl (fun K hK => ?_) (AllReadyH.cons rfl (fun K hK => ?_) AllReadyH.nil)
  ·go_simp
   refine hK.out _ _ trivial (fun _ => ?_)
   clear hK K
   try simp only [Act.put, laS]
   refine wpAnyH_ready (rs := [5]) (by kernel_rfl) (by simp) ?_
   refine AllReadyH.cons rfl (fun K hK => ?_) AllReadyH.nil
   go_simp
   refine hK.out _ _ trivial (fun _ => ?_)
   clear hK K
   try simp only [Act.put, laS]
   refine wpAnyH_ready (rs := [6]) (by kernel_rfl) (by simp) ?_
   refine AllReadyH.cons rfl (fun K hK => ?_) AllReadyH.nil
   go_simp
   refine hK.out _ _ trivial (fun _ => ?_)
   clear hK K
   try simp only [Act.put, laS]
   refine wpAnyH_ready (rs := [7]) (by kernel_rfl) (by simp) ?_
   refine AllReadyH.cons rfl (fun K hK => ?_) AllReadyH.nil
   rw [if_pos (by kernel_rfl)]
   refine wp_append_lies (P := Tryz.prog) _ _ _ 22 rfl 0 40 i0 (.agg #[.int .i64 0, .int .u64 0, .int .u64 0, .int .u64 0, .int .u64 0, .int .i64 0, .int .i64 0, .int .i64 0, .int .i64 0, .int .i64 0]) 10 80 Tryz.underlying22 hi hz0 hz1 hz2 rfl (by decide) _ r.l.length _ rfl HOA.out ⟨w.heap.size + 1, 0, none⟩ 1 1 x.cells.toList rfl rfl HCE.out (cells_one x) (by decide) (by unfold maxLen; omega) (by omega) (Nat.zero_le _) _ rfl ?_
   intro g cap3 w3 hown3 hgrow3 hat3 hlt3
   replace hgrow3 : (((w.alloc (.cells #[.int .i64 x.kind, .int .u64 x.w0, .int .u64 x.w1, .int .u64 x.w2, .int .u64 x.w3, .int .i64 x.a, .int .i64 x.b, .int .i64 x.mn, .int .i64 x.mx, .int .i64 x.n] 40)).alloc (.cells #[.int .i64 x.kind, .int .u64 x.w0, .int .u64 x.w1, .int .u64 x.w2, .int .u64 x.w3, .int .i64 x.a, .int .i64 x.b, .int .i64 x.mn, .int .i64 x.mx, .int .i64 x.n] 40)).drew).grownBy w3 (Value.slice o r.l.length cap).ownBlock := hgrow3
   replace hat3 : (Value.slice o r.l.length cap).ownBlock = some g ∨ g = (((w.alloc (.cells #[.int .i64 x.kind, .int .u64 x.w0, .int .u64 x.w1, .int .u64 x.w2, .int .u64 x.w3, .int .i64 x.a, .int .i64 x.b, .int .i64 x.mn, .int .i64 x.mx, .int .i64 x.n] 40)).alloc (.cells #[.int .i64 x.kind, .int .u64 x.w0, .int .u64 x.w1, .int .u64 x.w2, .int .u64 x.w3, .int .i64 x.a, .int .i64 x.b, .int .i64 x.mn, .int .i64 x.mx, .int .i64 x.n] 40)).drew).heap.size := hat3
   have hsA : (((w.alloc (.cells #[.int .i64 x.kind, .int .u64 x.w0, .int .u64 x.w1, .int .u64 x.w2, .int .u64 x.w3, .int .i64 x.a, .int .i64 x.b, .int .i64 x.mn, .int .i64 x.mx, .int .i64 x.n] 40)).alloc (.cells #[.int .i64 x.kind, .int .u64 x.w0, .int .u64 x.w1, .int .u64 x.w2, .int .u64 x.w3, .int .i64 x.a, .int .i64 x.b, .int .i64 x.mn, .int .i64 x.mx, .int .i64 x.n] 40)).drew).heap.size = w.heap.size + 1 + 1 := by show ((w.alloc (.cells #[.int .i64 x.kind, .int .u64 x.w0, .int .u64 x.w1, .int .u64 x.w2, .int .u64 x.w3, .int .i64 x.a, .int .i64 x.b, .int .i64 x.mn, .int .i64 x.mx, .int .i64 x.n] 40)).alloc (.cells #[.int .i64 x.kind, .int .u64 x.w0, .int .u64 x.w1, .int .u64 x.w2, .int .u64 x.w3, .int .i64 x.a, .int .i64 x.b, .int .i64 x.mn, .int .i64 x.mx, .int .i64 x.n] 40)).heap.size = _; rw [World.size_alloc, World.size_alloc]
   have hb3 : w3.heap[b]? = some (.cells (rcells s r (.slice o r.l.length cap)) 52 (0, 0)) := (hgrow3.block b (by rw [hsA]; omega) (fun e => H.out.ob e.symm)).trans HBA.out
   have c3 : w3.cell? ⟨b, 2, none⟩ = some (.slice o r.l.length cap) := (cell_of _ _ _ _ hb3 2).trans rfl
   have f3 := frozen_of _ _ _ _ hb3 2
   have hgb : g ≠ b := by
    rcases hat3 with e | e
    ·intro q; exact H.out.ob (by rw [e, q])
    ·rw [hsA] at e; omega
   have hfin := put_fin x H.out hgrow3 hsA hb3 hown3 hgb (by rcases hat3 with e | e; exact .inl e; exact .inr (by rw [hsA] at e; omega)) HKA.out hc
   have c4 := hfin.1.cell 2
   have HFN := Lib.hid hfin
   clear hfin hown3 hgrow3 hat3 hb3
   refine hK.out _ _ trivial (fun _ => ?_)
   clear hK K
   try simp only [Act.put, laS]
   refine wpAnyH_take (i := 8) (v := ?_) rfl (by kernel_rfl) (by kernel_rfl) (by kernel_rfl) (fun _ _ _ h => h) (Or.inl ⟨by kernel_rfl, ?_⟩) (by trivial) ?_
   rotate_left
   ·(intro w hSw; (try dsimp only at hSw); go_simp); (try with_reducible rfl)
   try simp only [Act.put, laS]
   refine wpAnyH_take (i := 9) (v := ?_) rfl (by kernel_rfl) (by kernel_rfl) (by kernel_rfl) (fun _ _ _ h => h) (Or.inl ⟨by kernel_rfl, ?_⟩) (by trivial) ?_
   rotate_left
   ·(intro w hSw; (try dsimp only at hSw); go_simp); (try with_reducible rfl)
   try simp only [Act.put, laS]
   refine wpAnyH_ready (rs := [10]) (by kernel_rfl) (by simp) ?_
   refine AllReadyH.cons rfl (fun K hK => ?_) AllReadyH.nil
   go_simp
   refine hK.out _ _ trivial (fun _ => ?_)
   clear hK K
   try simp only [Act.put, laS]
   refine wpAnyH_done (by kernel_rfl) ?_ _
   have c4' : World.cell? (w3.setCell ⟨b, 2, none⟩ (.slice (some ⟨g, 0, none⟩) (r.l.length + 1) cap3)) ⟨b, 2, none⟩ = some (.slice (some ⟨g, 0, none⟩) (r.l.length + 1) cap3) := c4.trans rfl
   have ew : IntKind.i64.wrap ((r.l.length : Int) + 1 - 1) = (r.l.length : Int) := by simp [IntKind.wrap, IntKind.signed, IntKind.bits]; omega
   have ew2 : IntKind.i64.wrap (r.l.length : Int) = (r.l.length : Int) := by simp [IntKind.wrap, IntKind.signed, IntKind.bits]; omega
   clear c4
   go_wp2
   go_ret
   refine ⟨?_, _, HFN.out.1, HFN.out.2⟩
   rw [put_len x hc]
   simp
  ·go_simp
   refine hK.out _ _ trivial (fun _ => ?_)
   clear hK K
   try simp only [Act.put, laS]
   refine wpAnyH_ready (rs := [4, 6]) (by kernel_rfl) (by simp) ?_
   refine AllReadyH.cons rfl (fun K hK => ?_) (AllReadyH.cons rfl (fun K hK => ?_) AllReadyH.nil)
   ·go_simp
    refine hK.out _ _ trivial (fun _ => ?_)
    clear hK K
    try simp only [Act.put, laS]
    refine wpAnyH_ready (rs := [6]) (by kernel_rfl) (by simp) ?_
    refine AllReadyH.cons rfl (fun K hK => ?_) AllReadyH.nil
    go_simp
    refine hK.out _ _ trivial (fun _ => ?_)
    clear hK K
    try simp only [Act.put, laS]
    refine wpAnyH_ready (rs := [7]) (by kernel_rfl) (by simp) ?_
    refine AllReadyH.cons rfl (fun K hK => ?_) AllReadyH.nil
    rw [if_pos (by kernel_rfl)]
    refine wp_append_lies (P := Tryz.prog) _ _ _ 22 rfl 0 40 i0 (.agg #[.int .i64 0, .int .u64 0, .int .u64 0, .int .u64 0, .int .u64 0, .int .i64 0, .int .i64 0, .int .i64 0, .int .i64 0, .int .i64 0]) 10 80 Tryz.underlying22 hi hz0 hz1 hz2 rfl (by decide) _ r.l.length _ rfl HOA.out ⟨w.heap.size + 1, 0, none⟩ 1 1 x.cells.toList rfl rfl HCE.out (cells_one x) (by decide) (by unfold maxLen; omega) (by omega) (Nat.zero_le _) _ rfl ?_
    intro g cap3 w3 hown3 hgrow3 hat3 hlt3
    replace hgrow3 : (((w.alloc (.cells #[.int .i64 x.kind, .int .u64 x.w0, .int .u64 x.w1, .int .u64 x.w2, .int .u64 x.w3, .int .i64 x.a, .int .i64 x.b, .int .i64 x.mn, .int .i64 x.mx, .int .i64 x.n] 40)).alloc (.cells #[.int .i64 x.kind, .int .u64 x.w0, .int .u64 x.w1, .int .u64 x.w2, .int .u64 x.w3, .int .i64 x.a, .int .i64 x.b, .int .i64 x.mn, .int .i64 x.mx, .int .i64 x.n] 40)).drew).grownBy w3 (Value.slice o r.l.length cap).ownBlock := hgrow3
    replace hat3 : (Value.slice o r.l.length cap).ownBlock = some g ∨ g = (((w.alloc (.cells #[.int .i64 x.kind, .int .u64 x.w0, .int .u64 x.w1, .int .u64 x.w2, .int .u64 x.w3, .int .i64 x.a, .int .i64 x.b, .int .i64 x.mn, .int .i64 x.mx, .int .i64 x.n] 40)).alloc (.cells #[.int .i64 x.kind, .int .u64 x.w0, .int .u64 x.w1, .int .u64 x.w2, .int .u64 x.w3, .int .i64 x.a, .int .i64 x.b, .int .i64 x.mn, .int .i64 x.mx, .int .i64 x.n] 40)).drew).heap.size := hat3
    have hsA : (((w.alloc (.cells #[.int .i64 x.kind, .int .u64 x.w0, .int .u64 x.w1, .int .u64 x.w2, .int .u64 x.w3, .int .i64 x.a, .int .i64 x.b, .int .i64 x.mn, .int .i64 x.mx, .int .i64 x.n] 40)).alloc (.cells #[.int .i64 x.kind, .int .u64 x.w0, .int .u64 x.w1, .int .u64 x.w2, .int .u64 x.w3, .int .i64 x.a, .int .i64 x.b, .int .i64 x.mn, .int .i64 x.mx, .int .i64 x.n] 40)).drew).heap.size = w.heap.size + 1 + 1 := by show ((w.alloc (.cells #[.int .i64 x.kind, .int .u64 x.w0, .int .u64 x.w1, .int .u64 x.w2, .int .u64 x.w3, .int .i64 x.a, .int .i64 x.b, .int .i64 x.mn, .int .i64 x.mx, .int .i64 x.n] 40)).alloc (.cells #[.int .i64 x.kind, .int .u64 x.w0, .int .u64 x.w1, .int .u64 x.w2, .int .u64 x.w3, .int .i64 x.a, .int .i64 x.b, .int .i64 x.mn, .int .i64 x.mx, .int .i64 x.n] 40)).heap.size = _; rw [World.size_alloc, World.size_alloc]
    have hb3 : w3.heap[b]? = some (.cells (rcells s r (.slice o r.l.length cap)) 52 (0, 0)) := (hgrow3.block b (by rw [hsA]; omega) (fun e => H.out.ob e.symm)).trans HBA.out
    have c3 : w3.cell? ⟨b, 2, none⟩ = some (.slice o r.l.length cap) := (cell_of _ _ _ _ hb3 2).trans rfl
    have f3 := frozen_of _ _ _ _ hb3 2
    have hgb : g ≠ b := by
     rcases hat3 with e | e
     ·intro q; exact H.out.ob (by rw [e, q])
     ·rw [hsA] at e; omega
    have hfin := put_fin x H.out hgrow3 hsA hb3 hown3 hgb (by rcases hat3 with e | e; exact .inl e; exact .inr (by rw [hsA] at e; omega)) HKA.out hc
    have c4 := hfin.1.cell 2
    have HFN := Lib.hid hfin
    clear hfin hown3 hgrow3 hat3 hb3
    refine hK.out _ _ trivial (fun _ => ?_)
    clear hK K
    try simp only [Act.put, laS]
    refine wpAnyH_take (i := 8) (v := ?_) rfl (by kernel_rfl) (by kernel_rfl) (by kernel_rfl) (fun _ _ _ h => h) (Or.inl ⟨by kernel_rfl, ?_⟩) (by trivial) ?_
    rotate_left
    ·(intro w hSw; (try dsimp only at hSw); go_simp); (try with_reducible rfl)
    try simp only [Act.put, laS]
    refine wpAnyH_take (i := 9) (v := ?_) rfl (by kernel_rfl) (by kernel_rfl) (by kernel_rfl) (fun _ _ _ h => h) (Or.inl ⟨by kernel_rfl, ?_⟩) (by trivial) ?_
    rotate_left
    ·(intro w hSw; (try dsimp only at hSw); go_simp); (try with_reducible rfl)
    try simp only [Act.put, laS]
    refine wpAnyH_ready (rs := [10]) (by kernel_rfl) (by simp) ?_
    refine AllReadyH.cons rfl (fun K hK => ?_) AllReadyH.nil
    go_simp
    refine hK.out _ _ trivial (fun _ => ?_)
    clear hK K
    try simp only [Act.put, laS]
    refine wpAnyH_done (by kernel_rfl) ?_ _
    have c4' : World.cell? (w3.setCell ⟨b, 2, none⟩ (.slice (some ⟨g, 0, none⟩) (r.l.length + 1) cap3)) ⟨b, 2, none⟩ = some (.slice (some ⟨g, 0, none⟩) (r.l.length + 1) cap3) := c4.trans rfl
    have ew : IntKind.i64.wrap ((r.l.length : Int) + 1 - 1) = (r.l.length : Int) := by simp [IntKind.wrap, IntKind.signed, IntKind.bits]; omega
    have ew2 : IntKind.i64.wrap (r.l.length : Int) = (r.l.length : Int) := by simp [IntKind.wrap, IntKind.signed, IntKind.bits]; omega
    clear c4
    go_wp2
    go_ret
    refine ⟨?_, _, HFN.out.1, HFN.out.2⟩
    rw [put_len x hc]
    simp
   ·go_simp
    refine hK.out _ _ trivial (fun _ => ?_)
    clear hK K
    try simp only [Act.put, laS]
    refine wpAnyH_ready (rs := [4]) (by kernel_rfl) (by simp) ?_
    refine AllReadyH.cons rfl (fun K hK => ?_) AllReadyH.nil
    go_simp
    refine hK.out _ _ trivial (fun _ => ?_)
    clear hK K
    try simp only [Act.put, laS]
    refine wpAnyH_ready (rs := [7]) (by kernel_rfl) (by simp) ?_
    refine AllReadyH.cons rfl (fun K hK => ?_) AllReadyH.nil
    rw [if_pos (by kernel_rfl)]
    refine wp_append_lies (P := Tryz.prog) _ _ _ 22 rfl 0 40 i0 (.agg #[.int .i64 0, .int .u64 0, .int .u64 0, .int .u64 0, .int .u64 0, .int .i64 0, .int .i64 0, .int .i64 0, .int .i64 0, .int .i64 0]) 10 80 Tryz.underlying22 hi hz0 hz1 hz2 rfl (by decide) _ r.l.length _ rfl HOA.out ⟨w.heap.size + 1, 0, none⟩ 1 1 x.cells.toList rfl rfl HCE.out (cells_one x) (by decide) (by unfold maxLen; omega) (by omega) (Nat.zero_le _) _ rfl ?_
    intro g cap3 w3 hown3 hgrow3 hat3 hlt3
    replace hgrow3 : (((w.alloc (.cells #[.int .i64 x.kind, .int .u64 x.w0, .int .u64 x.w1, .int .u64 x.w2, .int .u64 x.w3, .int .i64 x.a, .int .i64 x.b, .int .i64 x.mn, .int .i64 x.mx, .int .i64 x.n] 40)).alloc (.cells #[.int .i64 x.kind, .int .u64 x.w0, .int .u64 x.w1, .int .u64 x.w2, .int .u64 x.w3, .int .i64 x.a, .int .i64 x.b, .int .i64 x.mn, .int .i64 x.mx, .int .i64 x.n] 40)).drew).grownBy w3 (Value.slice o r.l.length cap).ownBlock := hgrow3
    replace hat3 : (Value.slice o r.l.length cap).ownBlock = some g ∨ g = (((w.alloc (.cells #[.int .i64 x.kind, .int .u64 x.w0, .int .u64 x.w1, .int .u64 x.w2, .int .u64 x.w3, .int .i64 x.a, .int .i64 x.b, .int .i64 x.mn, .int .i64 x.mx, .int .i64 x.n] 40)).alloc (.cells #[.int .i64 x.kind, .int .u64 x.w0, .int .u64 x.w1, .int .u64 x.w2, .int .u64 x.w3, .int .i64 x.a, .int .i64 x.b, .int .i64 x.mn, .int .i64 x.mx, .int .i64 x.n] 40)).drew).heap.size := hat3
    have hsA : (((w.alloc (.cells #[.int .i64 x.kind, .int .u64 x.w0, .int .u64 x.w1, .int .u64 x.w2, .int .u64 x.w3, .int .i64 x.a, .int .i64 x.b, .int .i64 x.mn, .int .i64 x.mx, .int .i64 x.n] 40)).alloc (.cells #[.int .i64 x.kind, .int .u64 x.w0, .int .u64 x.w1, .int .u64 x.w2, .int .u64 x.w3, .int .i64 x.a, .int .i64 x.b, .int .i64 x.mn, .int .i64 x.mx, .int .i64 x.n] 40)).drew).heap.size = w.heap.size + 1 + 1 := by show ((w.alloc (.cells #[.int .i64 x.kind, .int .u64 x.w0, .int .u64 x.w1, .int .u64 x.w2, .int .u64 x.w3, .int .i64 x.a, .int .i64 x.b, .int .i64 x.mn, .int .i64 x.mx, .int .i64 x.n] 40)).alloc (.cells #[.int .i64 x.kind, .int .u64 x.w0, .int .u64 x.w1, .int .u64 x.w2, .int .u64 x.w3, .int .i64 x.a, .int .i64 x.b, .int .i64 x.mn, .int .i64 x.mx, .int .i64 x.n] 40)).heap.size = _; rw [World.size_alloc, World.size_alloc]
    have hb3 : w3.heap[b]? = some (.cells (rcells s r (.slice o r.l.length cap)) 52 (0, 0)) := (hgrow3.block b (by rw [hsA]; omega) (fun e => H.out.ob e.symm)).trans HBA.out
    have c3 : w3.cell? ⟨b, 2, none⟩ = some (.slice o r.l.length cap) := (cell_of _ _ _ _ hb3 2).trans rfl
    have f3 := frozen_of _ _ _ _ hb3 2
    have hgb : g ≠ b := by
     rcases hat3 with e | e
     ·intro q; exact H.out.ob (by rw [e, q])
     ·rw [hsA] at e; omega
    have hfin := put_fin x H.out hgrow3 hsA hb3 hown3 hgb (by rcases hat3 with e | e; exact .inl e; exact .inr (by rw [hsA] at e; omega)) HKA.out hc
    have c4 := hfin.1.cell 2
    have HFN := Lib.hid hfin
    clear hfin hown3 hgrow3 hat3 hb3
    refine hK.out _ _ trivial (fun _ => ?_)
    clear hK K
    try simp only [Act.put, laS]
    refine wpAnyH_take (i := 8) (v := ?_) rfl (by kernel_rfl) (by kernel_rfl) (by kernel_rfl) (fun _ _ _ h => h) (Or.inl ⟨by kernel_rfl, ?_⟩) (by trivial) ?_
    rotate_left
    ·(intro w hSw; (try dsimp only at hSw); go_simp); (try with_reducible rfl)
    try simp only [Act.put, laS]
    refine wpAnyH_take (i := 9) (v := ?_) rfl (by kernel_rfl) (by kernel_rfl) (by kernel_rfl) (fun _ _ _ h => h) (Or.inl ⟨by kernel_rfl, ?_⟩) (by trivial) ?_
    rotate_left
    ·(intro w hSw; (try dsimp only at hSw); go_simp); (try with_reducible rfl)
    try simp only [Act.put, laS]
    refine wpAnyH_ready (rs := [10]) (by kernel_rfl) (by simp) ?_
    refine AllReadyH.cons rfl (fun K hK => ?_) AllReadyH.nil
    go_simp
    refine hK.out _ _ trivial (fun _ => ?_)
    clear hK K
    try simp only [Act.put, laS]
    refine wpAnyH_done (by kernel_rfl) ?_ _
    have c4' : World.cell? (w3.setCell ⟨b, 2, none⟩ (.slice (some ⟨g, 0, none⟩) (r.l.length + 1) cap3)) ⟨b, 2, none⟩ = some (.slice (some ⟨g, 0, none⟩) (r.l.length + 1) cap3) := c4.trans rfl
    have ew : IntKind.i64.wrap ((r.l.length : Int) + 1 - 1) = (r.l.length : Int) := by simp [IntKind.wrap, IntKind.signed, IntKind.bits]; omega
    have ew2 : IntKind.i64.wrap (r.l.length : Int) = (r.l.length : Int) := by simp [IntKind.wrap, IntKind.signed, IntKind.bits]; omega
    clear c4
    go_wp2
    go_ret
    refine ⟨?_, _, HFN.out.1, HFN.out.2⟩
    rw [put_len x hc]
    simp
 ·have g1 : ((r.l.length : Int) ≤ 120) = False := by simp; omega
  have ew : IntKind.i64.wrap ((r.l.length : Int) - 1) = (r.l.length : Int) - 1 := by simp [IntKind.wrap, IntKind.signed, IntKind.bits]; omega
  have HB := Lib.hid h1
  have HK := Lib.hid (RK.below (b := b) (v := .slice o r.l.length cap) hbx)
  clear h1 h hbx
  go_enter Tryz.func36, Tryz.ntmps36
  go_wp2
  go_ret
  rw [put_full x hc]
  exact ⟨rfl, _, HB.out, HK.out⟩
end
end Go.Proofs.YtkcbknfhckomcaaGreatDoor
namespace Go.Proofs.YtkcbknfhckomcaaGreatDoor
open Go.RowKit
def ROut {α : Type} (w : World) (b : Nat) (s : List UInt8) (v : Value) (val : α → Value) (res : Except Er (α × BRd)) (e : Ending) (w' : World) : Prop :=
 match res with
 | .ok (a, q) => e = .returned (val a) ∧ ∃ v', RX w' b s q v' ∧ RK w b v w' v'
 | .error (z, a) => e = Pan z (a : Int) ∧ ∃ v', RK w b v w' v'
theorem ROut.yes {α : Type} {w w' : World} {b : Nat} {s : List UInt8} {v v' : Value} {val : α → Value} {res : Except Er (α × BRd)} {a : α} {q : BRd} (hr : res = .ok (a, q)) (hx : RX w' b s q v') (hk : RK w b v w' v') : ROut w b s v val res (.returned (val a)) w' := by
 subst hr; exact ⟨rfl, v', hx, hk⟩
theorem ROut.no {α : Type} {w w' : World} {b : Nat} {s : List UInt8} {v v' : Value} {val : α → Value} {res : Except Er (α × BRd)} {z : Int} {a : Nat} (hr : res = .error (z, a)) (hk : RK w b v w' v') : ROut w b s v val res (Pan z (a : Int)) w' := by
 subst hr; exact ⟨rfl, v', hk⟩
theorem ROut.trans {α : Type} {w w1 w' : World} {b : Nat} {s : List UInt8} {v v1 : Value} {val : α → Value} {res : Except Er (α × BRd)} {e : Ending} (hk : RK w b v w1 v1) (h : ROut w1 b s v1 val res e w') : ROut w b s v val res e w' := by
 unfold ROut at *
 cases res with
 | error q => obtain ⟨z, a⟩ := q; obtain ⟨he, v', h'⟩ := h; exact ⟨he, v', hk.trans h'⟩
 | ok q => obtain ⟨a, q⟩ := q; obtain ⟨he, v', hx, h'⟩ := h; exact ⟨he, v', hx, hk.trans h'⟩
theorem RX.row_but {w : World} {b : Nat} {s : List UInt8} {r : BRd} {v : Value} (h : RX w b s r v) {j : Nat} (u : Value) (r' : BRd) (hr : (rcells s r v).setIfInBounds j u = rcells s r' v) (hl : r'.l = r.l) (hp : r'.p ≤ s.length) : RX (w.setCell ⟨b, j, none⟩ u) b s r' v := by
 have gr0 : w.grownBy w (some b) := ⟨rfl, rfl, rfl, Nat.le_refl _, fun _ _ _ => rfl⟩
 refine ⟨?_, ?_, h.ob, hp, h.s, by rw [hl]; exact h.l⟩
 ·rw [heap_setCell_same _ b j _ _ _ h.heap, hr]
 ·rw [hl]; exact h.row.kept (grown_setc gr0 j u) (.inr h.ob)
theorem RK.set {w w1 : World} {b : Nat} {v v1 : Value} (h : RK w b v w1 v1) (j : Nat) (u : Value) : RK w b v (w1.setCell ⟨b, j, none⟩ u) v1 := ⟨h.k.setCell (p := ⟨b, j, none⟩) (.inl rfl) u, h.v⟩
section
variable {b : Nat} {s : List UInt8} {r : BRd} {v : Value}
theorem putbytes_c (G : Nat → Bool) (w : World) (h : RX w b s r v) :
  Calls Tryz.prog 81 #[.pointer (some ⟨b, 0, none⟩), sv G] w fun e w' => e = .returned (.int .i64 (((r.put (byNd G)).l.length : Int) - 1)) ∧ ∃ v', RX w' b s (r.put (byNd G)) v' ∧ RK w b v w' v' := by
 have hbx : Below w.heap.size w (w.alloc (.cells #[.int .u64 (wd G 0), .int .u64 (wd G 1), .int .u64 (wd G 2), .int .u64 (wd G 3)] 38)) := (Below.refl _ w).alloc (Nat.le_refl _) _
 have hp := rput_c (byNd G) _ (h.below hbx)
 have HK := Lib.hid (RK.below (b := b) (v := v) hbx)
 unfold byNd at hp ⊢
 simp only at hp
 have HP := Lib.hid hp
 clear hp h hbx
 unfold sv
 go_enter Tryz.func81, Tryz.ntmps81
 go_wp2_with fail
 refine HP.out.mono ?_
 rintro e w2 ⟨rfl, v', hx, hk⟩
 have HX := Lib.hid hx
 have HK2 := Lib.hid (HK.out.trans hk)
 clear hx hk HP HK
 go_wp2
 go_ret
 exact ⟨rfl, v', HX.out, HK2.out⟩
theorem ref_c (n a : Nat) (hn : n ≤ 9) (w : World) (h : RX w b s r v) :
  Calls Tryz.prog 109 #[.pointer (some ⟨b, 0, none⟩), .int .i64 (n : Int), .int .i64 (a : Int)] w (ROut w b s v (fun _ : Unit => .tuple #[]) (if !r.en n then .error (44, a) else .ok ((), r.put ⟨8, 0, 0, 0, 0, 0, 0, 0, 0, (n : Int)⟩))) := by
 have hc : w.cell? ⟨b, 4 + n, none⟩ = some (.bool (r.en n)) := by
  rw [h.cell]
  rcases (by omega : n = 0 ∨ n = 1 ∨ n = 2 ∨ n = 3 ∨ n = 4 ∨ n = 5 ∨ n = 6 ∨ n = 7 ∨ n = 8 ∨ n = 9) with rfl | rfl | rfl | rfl | rfl | rfl | rfl | rfl | rfl | rfl <;> rfl
 have hi : (0 : Int) ≤ (n : Int) ∧ (n : Int) < 10 := by omega
 have hp := rput_c ⟨8, 0, 0, 0, 0, 0, 0, 0, 0, (n : Int)⟩ w h
 simp only at hp
 have HP := Lib.hid hp
 have HW := Lib.hid (wrong_c 44 (a : Int) w)
 have HR0 := Lib.hid (RK.refl (w := w) (b := b) (v := v))
 cases he : r.en n with
 | false =>
  rw [he] at hc
  clear hp HP h he
  go_enter Tryz.func109, Tryz.ntmps109
  go_wp2_with fail
  refine HW.out.mono ?_
  rintro e w2 ⟨rfl, rfl⟩
  unfold Pan
  go_wp2
  exact ⟨rfl, ROut.no rfl HR0.out⟩
 | true =>
  rw [he] at hc
  clear hp h he HW
  go_enter Tryz.func109, Tryz.ntmps109
  go_wp2_with fail
  refine HP.out.mono ?_
  rintro e w2 ⟨rfl, v', hx, hk⟩
  have HX := Lib.hid hx
  have HK := Lib.hid hk
  clear hx hk HP
  go_wp2
  go_end0
  exact ROut.yes (α := Unit) (a := ()) rfl HX.out HK.out
end
end Go.Proofs.YtkcbknfhckomcaaGreatDoor
namespace Go.Proofs.YtkcbknfhckomcaaGreatDoor
open Go.RowKit
theorem slice_at (s : List UInt8) (a : Nat) (ha : a ≤ s.length) (W : World) : (Instr.slice 9 (.string ⟨s.toArray⟩) (some (.int .i64 (a : Int))) none none).run Tryz.prog W = .ok (.string ⟨(s.drop a).toArray⟩) W := by
 have hsz : (⟨s.toArray⟩ : ByteArray).size = s.length := by simp [ByteArray.size]
 have e : (⟨s.toArray⟩ : ByteArray).extract a s.length = ⟨(s.drop a).toArray⟩ := by rw [← drop_arr, hsz]
 rw [run_slice_string_from_if (P := Tryz.prog) W 9 _ .i64 (a : Int) Tryz.underlying9, if_pos ⟨by omega, by rw [hsz]; omega⟩, hsz]
 rw [show ((a : Int)).toNat = a by omega, e]
section
variable {b : Nat} {s : List UInt8} {r : BRd} {v : Value}
theorem bracketr_c (a : Nat) (ha : a ≤ s.length) (w : World) (h : RX w b s r v) (hm : MaxL w) :
  Calls Tryz.prog 83 #[.pointer (some ⟨b, 0, none⟩), .int .i64 (a : Int)] w (ROut w b s v (fun _ : Unit => .tuple #[]) (match brkP (s.drop a) with
   | none => .error (42, a)
   | some (G, n) => .ok ((), (r.to (a + n)).put (byNd G)))) := by
 have hs := h.s
 have hlt := h.lt
 have d0 : w.cell? ⟨b, 0, none⟩ = some (.string ⟨s.toArray⟩) := (h.cell 0).trans rfl
 have hsl := fun W => slice_at s a ha W
 have hB := bracket_c (s.drop a) (by rw [List.length_drop]; omega) w hm
 cases hq : brkP (s.drop a) with
 | none =>
  rw [hq] at hB
  have HB := Lib.hid hB
  have HW := Lib.hid fun w => wrong_c 42 (a : Int) w
  clear hB hq h hm
  go_enter Tryz.func83, Tryz.ntmps83
  go_wp2_with fail
  refine HB.out.mono ?_
  rintro e w1 ⟨rfl, hB1⟩
  have HK := Lib.hid (RK.below (b := b) (v := v) (hB1.alloc hB1.size (.cells #[.int .u64 0, .int .u64 0, .int .u64 0, .int .u64 0] 38)))
  rw [sv_none]
  go_wp2_with fail
  refine (HW.out _).mono ?_
  rintro e w2 ⟨rfl, rfl⟩
  unfold Pan
  go_wp2
  exact ⟨rfl, ROut.no rfl HK.out⟩
 | some q =>
  obtain ⟨G, n⟩ := q
  rw [hq] at hB
  have hle := brkP_le hq
  simp only [List.length_drop] at hle
  have hn : a + n ≤ s.length := by omega
  have HB := Lib.hid hB
  have HPB := Lib.hid fun w1 h1 => putbytes_c (r := r.to (a + n)) (v := v) (b := b) (s := s) G w1 h1
  have ew : IntKind.i64.wrap ((a : Int) + (n : Int)) = (a : Int) + (n : Int) := by simp [IntKind.wrap, IntKind.signed, IntKind.bits]; omega
  have H := Lib.hid h
  clear hB hq h hm
  go_enter Tryz.func83, Tryz.ntmps83
  go_wp2_with fail
  refine HB.out.mono ?_
  rintro e w1 ⟨rfl, hB1⟩
  have h1 := H.out.below hB1
  have h1l := h1.lt
  have f1 := h1.fz 1
  have c1 : w1.cell? ⟨b, 1, none⟩ = some (.int .i64 (r.p : Int)) := (h1.cell 1).trans rfl
  have v1 := Four.new w1 38 (.int .u64 (wd G 0)) (.int .u64 (wd G 1)) (.int .u64 (wd G 2)) (.int .u64 (wd G 3))
  have h2 := h1.row_but (j := 1) (.int .i64 ((a : Int) + (n : Int))) (r.to (a + n)) (by rw [← Int.natCast_add]; rfl) rfl hn
  have h3 := h2.below ((Below.refl _ _).alloc (Nat.le_refl _) (.cells #[.int .u64 (wd G 0), .int .u64 (wd G 1), .int .u64 (wd G 2), .int .u64 (wd G 3)] 38))
  have k2 := (RK.below (b := b) (v := v) hB1).set 1 (.int .i64 ((a : Int) + (n : Int)))
  have k3 := k2.trans (RK.below (b := b) (v := v) ((Below.refl _ _).alloc (Nat.le_refl _) (.cells #[.int .u64 (wd G 0), .int .u64 (wd G 1), .int .u64 (wd G 2), .int .u64 (wd G 3)] 38)))
  have H3 := Lib.hid h3
  have K3 := Lib.hid k3
  clear h1 v1 h2 h3 k2 k3 HB H hB1
  simp only [sv] at HPB ⊢
  go_wp2_with fail
  refine (HPB.out _ H3.out).mono ?_
  rintro e w4 ⟨rfl, v', hx, hk⟩
  have HX := Lib.hid hx
  have HK := Lib.hid (K3.out.trans hk)
  clear hx hk HPB H3 K3
  go_wp2
  go_end0
  exact ROut.yes (α := Unit) (a := ()) rfl HX.out HK.out
end
end Go.Proofs.YtkcbknfhckomcaaGreatDoor
