/- A reader: its variable; where a row ends, where a number of times begins. -/
import Derived.Test.YtdjcgjkbecncaaaGreatDoorJBrC
import Derived.Test.YtdjcgjkbecncaaaGreatDoorJBrJ
import Derived.Test.YtdjcgjkbecncaaaGreatDoorJRxTd
import Derived.Deep.AppendLies
import Derived.Test.YtdjcgjkbecncaaaGreatDoorJRxD
import Derived.BigQuiet
set_option linter.unusedVariables false
set_option linter.unusedSimpArgs false
set_option maxRecDepth 100000
set_option maxHeartbeats 40000000
namespace Go.Proofs.YtdjcgjkbecncaaaGreatDoor
open Go.RowKit
def rcells (s : List UInt8) (r : BRd) (v : Value) : Array Value := #[.string ⟨s.toArray⟩, .int .i64 (r.p : Int), v, .int .i64 (r.g : Int), .bool (r.en 0), .bool (r.en 1), .bool (r.en 2), .bool (r.en 3), .bool (r.en 4), .bool (r.en 5), .bool (r.en 6), .bool (r.en 7), .bool (r.en 8), .bool (r.en 9)]
structure RX (w : World) (b : Nat) (s : List UInt8) (r : BRd) (v : Value) : Prop where
 heap : w.heap[b]? = some (.cells (rcells s r v) 156 (0, 0))
 row : w.ownsRow 0 37 10 v r.l.length (flat r.l)
 ob : v.ownBlock ≠ some b
 p : r.p ≤ s.length
 s : s.length ≤ 100000
 l : r.l.length ≤ 121
structure RK (w : World) (b : Nat) (v : Value) (w' : World) (v' : Value) : Prop where
 k : But (fun k => k = b ∨ v.ownBlock = some k) w w'
 v : v'.ownBlock = v.ownBlock ∨ ∃ k, v'.ownBlock = some k ∧ w.heap.size ≤ k
section
variable {w w1 w' : World} {b : Nat} {s : List UInt8} {r r' : BRd} {v v1 v' : Value}
theorem RX.tx (h : RX w b s r v) : TX w b 156 (rcells s r v) s r.p := ⟨h.heap, rfl, rfl, h.p, h.s⟩
theorem RX.lt (h : RX w b s r v) : b < w.heap.size := (Array.getElem?_eq_some_iff.1 h.heap).1
theorem RX.cell (h : RX w b s r v) (j : Nat) : w.cell? ⟨b, j, none⟩ = (rcells s r v)[j]? := cell_of _ _ _ _ h.heap j
theorem RX.fz (h : RX w b s r v) (j : Nat) : w.frozen? ⟨b, j, none⟩ = false := frozen_of _ _ _ _ h.heap j
theorem RX.mv (h : RX w b s r v) {k : Nat} (m : Mv w b 156 (rcells s r v) s k w') : RX w' b s (r.to k) v :=
 ⟨m.x.heap.trans (by rfl), h.row.kept m.g (.inr h.ob), h.ob, m.x.p, h.s, h.l⟩
theorem RX.below (h : RX w b s r v) (hB : Below w.heap.size w w') : RX w' b s r v :=
 ⟨(hB.block b h.lt).trans h.heap, h.row.kept (grownB (row := some b) hB) (.inr h.ob), h.ob, h.p, h.s, h.l⟩
theorem RK.refl : RK w b v w v := ⟨⟨rfl, rfl, rfl, Nat.le_refl _, fun _ _ _ => rfl⟩, .inl rfl⟩
theorem RK.trans (h : RK w b v w1 v1) (h' : RK w1 b v1 w' v') : RK w b v w' v' :=
 ⟨⟨h'.k.os.trans h.k.os, h'.k.tape.trans h.k.tape, h'.k.output.trans h.k.output, Nat.le_trans h.k.size h'.k.size, fun k hk hs => (h'.k.block k (Nat.lt_of_lt_of_le hk h.k.size) (fun q => by
  rcases q with q | q
  ·exact hs (.inl q)
  ·rcases h.v with e | ⟨m, e, hm⟩
   ·rw [e] at q; exact hs (.inr q)
   ·rw [e] at q; have := Option.some.inj q; omega)).trans (h.k.block k hk hs)⟩, by
  rcases h'.v with e | ⟨m, e, hm⟩
  ·rcases h.v with e2 | ⟨m, e2, hm⟩
   ·exact .inl (e.trans e2)
   ·exact .inr ⟨m, e.trans e2, hm⟩
  ·exact .inr ⟨m, e, Nat.le_trans h.k.size hm⟩⟩
theorem RK.mv {T : TypeId} {cs : Array Value} {k : Nat} (m : Mv w b T cs s k w') : RK w b v w' v := ⟨But.grown m.g (.inl rfl), .inl rfl⟩
theorem RK.below (hB : Below w.heap.size w w') : RK w b v w' v := ⟨But.below hB, .inl rfl⟩
end
section
variable {b : Nat} {s : List UInt8} {r : BRd} {v : Value}
theorem ends_c (w : World) (h : RX w b s r v) :
  Calls Tryz.prog 169 #[.pointer (some ⟨b, 0, none⟩)] w fun e w' => e = .returned (.bool (endsP s r.p)) ∧ Below w.heap.size w w' := by
 have HO := Lib.hid (over_c w h.tx)
 have HA := Lib.hid fun w1 (hB : Below w.heap.size w w1) => ahead_c [92, 41] w1 (h.tx.below hB)
 have hE : endsP s r.p = (decide (r.p = s.length) || ah s r.p [92, 41]) := rfl
 rw [hE]
 clear hE h
 generalize decide (r.p = s.length) = A at *
 generalize ah s r.p [92, 41] = B at *
 cases A with
 | true =>
  go_enter Tryz.func169, Tryz.ntmps169
  go_wp2_with fail
  refine HO.out.mono ?_
  rintro e w1 ⟨rfl, hB1⟩
  clear HO HA
  go_wp2
  go_ret
  exact ⟨rfl, hB1⟩
 | false =>
  go_enter Tryz.func169, Tryz.ntmps169
  go_wp2_with fail
  refine HO.out.mono ?_
  rintro e w1 ⟨rfl, hB1⟩
  go_wp2_with fail
  refine (HA.out w1 hB1).mono ?_
  rintro e w2 ⟨rfl, hB2⟩
  have hB := hB1.trans (hB2.mono hB1.size)
  clear HO HA hB1 hB2
  go_wp2
  go_ret
  exact ⟨by simp, hB⟩
theorem istimes_c (w : World) (h : RX w b s r v) :
  Calls Tryz.prog 187 #[.pointer (some ⟨b, 0, none⟩)] w fun e w' => e = .returned (.bool (isTimesP s r.p)) ∧ Below w.heap.size w w' := by
 have HO := Lib.hid (ahead_c [42] w h.tx)
 have HA := Lib.hid fun w1 (hB : Below w.heap.size w w1) => ahead_c [92, 123] w1 (h.tx.below hB)
 have hE : isTimesP s r.p = (ah s r.p [42] || ah s r.p [92, 123]) := rfl
 rw [hE]
 clear hE h
 generalize ah s r.p [42] = A at *
 generalize ah s r.p [92, 123] = B at *
 cases A with
 | true =>
  go_enter Tryz.func187, Tryz.ntmps187
  go_wp2_with fail
  refine HO.out.mono ?_
  rintro e w1 ⟨rfl, hB1⟩
  clear HO HA
  go_wp2
  go_ret
  exact ⟨rfl, hB1⟩
 | false =>
  go_enter Tryz.func187, Tryz.ntmps187
  go_wp2_with fail
  refine HO.out.mono ?_
  rintro e w1 ⟨rfl, hB1⟩
  go_wp2_with fail
  refine (HA.out w1 hB1).mono ?_
  rintro e w2 ⟨rfl, hB2⟩
  have hB := hB1.trans (hB2.mono hB1.size)
  clear HO HA hB1 hB2
  go_wp2
  go_ret
  exact ⟨by simp, hB⟩
theorem iscountb_c (m M : Int) (w : World) : Calls Tryz.prog 194 #[.int .i64 m, .int .i64 M] w fun e w' => e = .returned (.bool (isCountP m M)) ∧ w' = w := by
 obtain ⟨v, hv⟩ : ∃ v, v = isCountP m M := ⟨_, rfl⟩
 rw [← hv]
 have HV := Lib.hid hv
 clear hv
 go_enter Tryz.func194, Tryz.ntmps194
 go_wp2
 all_goals go_ret
 all_goals (refine ⟨congrArg (fun b => Ending.returned (Value.bool b)) (?_ : _ = v), rfl⟩; rw [HV.out]; clear HV; rw [Bool.eq_iff_iff]; simp only [isCountP]; (try split) <;> simp <;> omega)
end
end Go.Proofs.YtdjcgjkbecncaaaGreatDoor
namespace Go.Proofs.YtdjcgjkbecncaaaGreatDoor
open Go.RowKit
theorem cells_one (x : Nd) : ∀ u ∈ x.cells.toList, u.oneCell' = true := by
 intro u hu
 simp [Nd.cells] at hu
 rcases hu with rfl | rfl | rfl | rfl | rfl | rfl | rfl | rfl | rfl | rfl <;> rfl
theorem put_l {r : BRd} (x : Nd) (hc : r.l.length ≤ 120) : (r.put x).l = r.l ++ [x] := by
 show (if r.l.length ≤ 120 then r.l ++ [x] else r.l) = _
 rw [if_pos hc]
theorem put_len {r : BRd} (x : Nd) (hc : r.l.length ≤ 120) : (r.put x).l.length = r.l.length + 1 := by rw [put_l x hc]; simp
theorem put_full {r : BRd} (x : Nd) (hc : ¬ r.l.length ≤ 120) : r.put x = r := by
 unfold BRd.put
 rw [if_neg hc]
theorem But.row {S : Nat → Prop} {w w' : World} {row : Option Nat} (h : w.grownBy w' row) (hS : ∀ k, row = some k → S k) : But S w w' :=
 ⟨h.os, h.tape, h.output, h.size, fun k hk hs => h.block k hk (fun e => hs (hS k e.symm))⟩
theorem RX.slice {w : World} {b : Nat} {s : List UInt8} {r : BRd} {v : Value} (h : RX w b s r v) : ∃ o cap, v = .slice o r.l.length cap := by
 rcases h.row.2 with ⟨e, h0⟩ | ⟨g, cap, cur, e, _⟩
 ·exact ⟨none, 0, by rw [e, h0]⟩
 ·exact ⟨_, cap, e⟩
theorem put_fin {w WA w3 : World} {b g cap3 H : Nat} {s : List UInt8} {r : BRd} {v : Value} (x : Nd) (h : RX w b s r v) (hgrow : WA.grownBy w3 v.ownBlock) (hH : WA.heap.size = H) (hb3 : w3.heap[b]? = some (.cells (rcells s r v) 156 (0, 0)))
  (hown : w3.ownsRow 0 37 10 (.slice (some ⟨g, 0, none⟩) (r.l.length + 1) cap3) (r.l.length + 1) (flat r.l ++ x.cells.toList)) (hgb : g ≠ b) (hat : v.ownBlock = some g ∨ w.heap.size ≤ g) (hwa : Below w.heap.size w WA) (hc : r.l.length ≤ 120) :
  RX (w3.setCell ⟨b, 2, none⟩ (.slice (some ⟨g, 0, none⟩) (r.l.length + 1) cap3)) b s (r.put x) (.slice (some ⟨g, 0, none⟩) (r.l.length + 1) cap3) ∧ RK w b v (w3.setCell ⟨b, 2, none⟩ (.slice (some ⟨g, 0, none⟩) (r.l.length + 1) cap3)) (.slice (some ⟨g, 0, none⟩) (r.l.length + 1) cap3) := by
 have hfl : flat (r.l ++ [x]) = flat r.l ++ x.cells.toList := by simp [flat]
 have gr0 : w3.grownBy w3 (some b) := ⟨rfl, rfl, rfl, Nat.le_refl _, fun _ _ _ => rfl⟩
 have gr := grown_setc gr0 2 (.slice (some ⟨g, 0, none⟩) (r.l.length + 1) cap3)
 have hob : (Value.slice (some ⟨g, 0, none⟩) (r.l.length + 1) cap3).ownBlock = some g := rfl
 refine ⟨⟨?_, ?_, ?_, h.p, h.s, ?_⟩, ⟨?_, ?_⟩⟩
 ·rw [heap_setCell_same _ b 2 _ _ _ hb3]; rfl
 ·rw [put_l x hc, hfl, List.length_append]
  exact hown.kept gr (.inr (by rw [hob]; simpa using hgb))
 ·rw [hob]; simpa using hgb
 ·rw [put_len x hc]; omega
 ·exact ((But.below hwa).trans (But.row hgrow (fun k e => .inr e))).setCell (p := ⟨b, 2, none⟩) (.inl rfl) _
 ·rw [hob]
  rcases hat with e | e
  ·exact .inl e.symm
  ·exact .inr ⟨g, rfl, e⟩
section
variable {b : Nat} {s : List UInt8} {r : BRd} {v : Value}
theorem rput_c (x : Nd) (w : World) (h : RX w b s r v) :
  Calls Tryz.prog 146 #[.pointer (some ⟨b, 0, none⟩), .agg #[.int .i64 x.kind, .int .u64 x.w0, .int .u64 x.w1, .int .u64 x.w2, .int .u64 x.w3, .int .i64 x.a, .int .i64 x.b, .int .i64 x.mn, .int .i64 x.mx, .int .i64 x.n]] w fun e w' => e = .returned (.int .i64 (((r.put x).l.length : Int) - 1)) ∧ ∃ v', RX w' b s (r.put x) v' ∧ RK w b v w' v' := by
 obtain ⟨i0, hi, hz0, hz1, hz2⟩ := info_parts infoNd
 obtain ⟨o, cap, rfl⟩ := h.slice
 have hlt := h.lt
 have hl := h.l
 have hbx : Below w.heap.size w (w.alloc (.cells #[.int .i64 x.kind, .int .u64 x.w0, .int .u64 x.w1, .int .u64 x.w2, .int .u64 x.w3, .int .i64 x.a, .int .i64 x.b, .int .i64 x.mn, .int .i64 x.mx, .int .i64 x.n] 37)) := (Below.refl _ w).alloc (Nat.le_refl _) _
 have h1 := h.below hbx
 have d2 : w.cell? ⟨b, 2, none⟩ = some (.slice o r.l.length cap) := (h.cell 2).trans rfl
 have e2 := h.fz 2
 by_cases hc : r.l.length ≤ 120
 ·have g1 : ((r.l.length : Int) ≤ 120) = True := by simp; omega
  have hbA : Below w.heap.size w (((w.alloc (.cells #[.int .i64 x.kind, .int .u64 x.w0, .int .u64 x.w1, .int .u64 x.w2, .int .u64 x.w3, .int .i64 x.a, .int .i64 x.b, .int .i64 x.mn, .int .i64 x.mx, .int .i64 x.n] 37)).alloc (.cells #[.int .i64 x.kind, .int .u64 x.w0, .int .u64 x.w1, .int .u64 x.w2, .int .u64 x.w3, .int .i64 x.a, .int .i64 x.b, .int .i64 x.mn, .int .i64 x.mx, .int .i64 x.n] 37)).drew) := (hbx.alloc hbx.size _).drew
  have hA := h.below hbA
  have hce : ∀ j u, x.cells.toList[j]? = some u → (((w.alloc (.cells #[.int .i64 x.kind, .int .u64 x.w0, .int .u64 x.w1, .int .u64 x.w2, .int .u64 x.w3, .int .i64 x.a, .int .i64 x.b, .int .i64 x.mn, .int .i64 x.mx, .int .i64 x.n] 37)).alloc (.cells #[.int .i64 x.kind, .int .u64 x.w0, .int .u64 x.w1, .int .u64 x.w2, .int .u64 x.w3, .int .i64 x.a, .int .i64 x.b, .int .i64 x.mn, .int .i64 x.mx, .int .i64 x.n] 37)).drew).cell? ((⟨w.heap.size + 1, 0, none⟩ : Addr).add j) = some u := fun j u hj => by
   have hh : (((w.alloc (.cells #[.int .i64 x.kind, .int .u64 x.w0, .int .u64 x.w1, .int .u64 x.w2, .int .u64 x.w3, .int .i64 x.a, .int .i64 x.b, .int .i64 x.mn, .int .i64 x.mx, .int .i64 x.n] 37)).alloc (.cells #[.int .i64 x.kind, .int .u64 x.w0, .int .u64 x.w1, .int .u64 x.w2, .int .u64 x.w3, .int .i64 x.a, .int .i64 x.b, .int .i64 x.mn, .int .i64 x.mx, .int .i64 x.n] 37)).drew).heap[w.heap.size + 1]? = some (.cells x.cells 37 (0, 0)) := by
    have := heap_new (w.alloc (.cells #[.int .i64 x.kind, .int .u64 x.w0, .int .u64 x.w1, .int .u64 x.w2, .int .u64 x.w3, .int .i64 x.a, .int .i64 x.b, .int .i64 x.mn, .int .i64 x.mx, .int .i64 x.n] 37)) (.cells #[.int .i64 x.kind, .int .u64 x.w0, .int .u64 x.w1, .int .u64 x.w2, .int .u64 x.w3, .int .i64 x.a, .int .i64 x.b, .int .i64 x.mn, .int .i64 x.mx, .int .i64 x.n] 37)
    rw [World.size_alloc] at this
    exact this
   rw [Addr.add_lit, Nat.zero_add, cell_of _ _ _ _ hh]
   simpa using hj
  have HOA := Lib.hid hA.row
  have HBA := Lib.hid hA.heap
  have HCE := Lib.hid hce
  have HKA := Lib.hid hbA
  have H := Lib.hid h
  clear h h1 hA hce hbA hbx
  go_enter Tryz.func146, Tryz.ntmps146
  go_wp2_with fail
  refine wp_region_held_drew (S := fun _ => True) (by kernel_rfl) trivial (fun _ => ?_)
  refine wpAnyH_take (i := 0) (v := ?_) rfl (by kernel_rfl) (by kernel_rfl) (by kernel_rfl) (fun _ _ _ h => h) (Or.inl ⟨by kernel_rfl, ?_⟩) (by trivial) ?_
  rotate_left
  ·(intro w hSw; (try dsimp only at hSw); go_simp); (try with_reducible rfl)
  try simp only [Act.put, laS]
  refine wpAnyH_take (i := 1) (v := ?_) rfl (by kernel_rfl) (by kernel_rfl) (by kernel_rfl) (fun _ _ _ h => h) (Or.inl ⟨by kernel_rfl, ?_⟩) (by trivial) ?_
  rotate_left
  ·(intro w hSw; (try dsimp only at hSw); go_simp); (try with_reducible rfl)
  try simp only [Act.put, laS]
  refine wpAnyH_take (i := 2) (v := ?_) rfl (by kernel_rfl) (by kernel_rfl) (by kernel_rfl) (fun _ _ _ h => h) (Or.inl ⟨by kernel_rfl, ?_⟩) (by trivial) ?_
  rotate_left
  ·(intro w hSw; (try dsimp only at hSw); go_simp); (try with_reducible rfl)
  try simp only [Act.put, laS]
  refine wpAnyH_take (i := 3) (v := ?_) rfl (by kernel_rfl) (by kernel_rfl) (by kernel_rfl) (fun _ _ _ h => h) (Or.inl ⟨by kernel_rfl, ?_⟩) (by trivial) ?_
  rotate_left
  ·(intro w hSw; (try dsimp only at hSw); go_simp); (try with_reducible rfl)
  try simp only [Act.put, laS]
  refine wpAnyH_ready (rs := [4, 5]) (by kernel_rfl) (by simp) ?_
  refine AllReadyH.cons rfl (fun K hK => ?_) (AllReadyH.cons rfl (fun K hK => ?_) AllReadyH.nil)
  ·go_simp
   refine hK.out _ _ trivial (fun _ => ?_)
   clear hK K
   try simp only [Act.put, laS]
   refine wpAnyH_ready (rs := [5]) (by kernel_rfl) (by simp) ?_
   refine AllReadyH.cons rfl (fun K hK => ?_) AllReadyH.nil
   go_simp
   refine hK.out _ _ trivial (fun _ => ?_)
   clear hK K
   try simp only [Act.put, laS]
   refine wpAnyH_ready (rs := [6]) (by kernel_rfl) (by simp) ?_
   refine AllReadyH.cons rfl (fun K hK => ?_) AllReadyH.nil
   go_simp
   refine hK.out _ _ trivial (fun _ => ?_)
   clear hK K
   try simp only [Act.put, laS]
   refine wpAnyH_ready (rs := [7]) (by kernel_rfl) (by simp) ?_
   refine AllReadyH.cons rfl (fun K hK => ?_) AllReadyH.nil
   rw [if_pos (by kernel_rfl)]
   refine wp_append_lies (P := Tryz.prog) _ _ _ 31 rfl 0 37 i0 (.agg #[.int .i64 0, .int .u64 0, .int .u64 0, .int .u64 0, .int .u64 0, .int .i64 0, .int .i64 0, .int .i64 0, .int .i64 0, .int .i64 0]) 10 80 Tryz.underlying31 hi hz0 hz1 hz2 rfl (by decide) _ r.l.length _ rfl HOA.out ⟨w.heap.size + 1, 0, none⟩ 1 1 x.cells.toList rfl rfl HCE.out (cells_one x) (by decide) (by unfold maxLen; omega) (by omega) (Nat.zero_le _) _ rfl ?_
   intro g cap3 w3 hown3 hgrow3 hat3 hlt3
   replace hgrow3 : (((w.alloc (.cells #[.int .i64 x.kind, .int .u64 x.w0, .int .u64 x.w1, .int .u64 x.w2, .int .u64 x.w3, .int .i64 x.a, .int .i64 x.b, .int .i64 x.mn, .int .i64 x.mx, .int .i64 x.n] 37)).alloc (.cells #[.int .i64 x.kind, .int .u64 x.w0, .int .u64 x.w1, .int .u64 x.w2, .int .u64 x.w3, .int .i64 x.a, .int .i64 x.b, .int .i64 x.mn, .int .i64 x.mx, .int .i64 x.n] 37)).drew).grownBy w3 (Value.slice o r.l.length cap).ownBlock := hgrow3
   replace hat3 : (Value.slice o r.l.length cap).ownBlock = some g ∨ g = (((w.alloc (.cells #[.int .i64 x.kind, .int .u64 x.w0, .int .u64 x.w1, .int .u64 x.w2, .int .u64 x.w3, .int .i64 x.a, .int .i64 x.b, .int .i64 x.mn, .int .i64 x.mx, .int .i64 x.n] 37)).alloc (.cells #[.int .i64 x.kind, .int .u64 x.w0, .int .u64 x.w1, .int .u64 x.w2, .int .u64 x.w3, .int .i64 x.a, .int .i64 x.b, .int .i64 x.mn, .int .i64 x.mx, .int .i64 x.n] 37)).drew).heap.size := hat3
   have hsA : (((w.alloc (.cells #[.int .i64 x.kind, .int .u64 x.w0, .int .u64 x.w1, .int .u64 x.w2, .int .u64 x.w3, .int .i64 x.a, .int .i64 x.b, .int .i64 x.mn, .int .i64 x.mx, .int .i64 x.n] 37)).alloc (.cells #[.int .i64 x.kind, .int .u64 x.w0, .int .u64 x.w1, .int .u64 x.w2, .int .u64 x.w3, .int .i64 x.a, .int .i64 x.b, .int .i64 x.mn, .int .i64 x.mx, .int .i64 x.n] 37)).drew).heap.size = w.heap.size + 1 + 1 := by show ((w.alloc (.cells #[.int .i64 x.kind, .int .u64 x.w0, .int .u64 x.w1, .int .u64 x.w2, .int .u64 x.w3, .int .i64 x.a, .int .i64 x.b, .int .i64 x.mn, .int .i64 x.mx, .int .i64 x.n] 37)).alloc (.cells #[.int .i64 x.kind, .int .u64 x.w0, .int .u64 x.w1, .int .u64 x.w2, .int .u64 x.w3, .int .i64 x.a, .int .i64 x.b, .int .i64 x.mn, .int .i64 x.mx, .int .i64 x.n] 37)).heap.size = _; rw [World.size_alloc, World.size_alloc]
   have hb3 : w3.heap[b]? = some (.cells (rcells s r (.slice o r.l.length cap)) 156 (0, 0)) := (hgrow3.block b (by rw [hsA]; omega) (fun e => H.out.ob e.symm)).trans HBA.out
   have c3 : w3.cell? ⟨b, 2, none⟩ = some (.slice o r.l.length cap) := (cell_of _ _ _ _ hb3 2).trans rfl
   have f3 := frozen_of _ _ _ _ hb3 2
   have hgb : g ≠ b := by
    rcases hat3 with e | e
    ·intro q; exact H.out.ob (by rw [e, q])
    ·rw [hsA] at e; omega
   have hfin := put_fin x H.out hgrow3 hsA hb3 hown3 hgb (by rcases hat3 with e | e; exact .inl e; exact .inr (by rw [hsA] at e; omega)) HKA.out hc
   have c4 := hfin.1.cell 2
   have HFN := Lib.hid hfin
   clear hfin hown3 hgrow3 hat3 hb3
   refine hK.out _ _ trivial (fun _ => ?_)
   clear hK K
   try simp only [Act.put, laS]
   refine wpAnyH_take (i := 8) (v := ?_) rfl (by kernel_rfl) (by kernel_rfl) (by kernel_rfl) (fun _ _ _ h => h) (Or.inl ⟨by kernel_rfl, ?_⟩) (by trivial) ?_
   rotate_left
   ·(intro w hSw; (try dsimp only at hSw); go_simp); (try with_reducible rfl)
   try simp only [Act.put, laS]
   refine wpAnyH_take (i := 9) (v := ?_) rfl (by kernel_rfl) (by kernel_rfl) (by kernel_rfl) (fun _ _ _ h => h) (Or.inl ⟨by kernel_rfl, ?_⟩) (by trivial) ?_
   rotate_left
   ·(intro w hSw; (try dsimp only at hSw); go_simp); (try with_reducible rfl)
   try simp only [Act.put, laS]
   refine wpAnyH_ready (rs := [10]) (by kernel_rfl) (by simp) ?_
   refine AllReadyH.cons rfl (fun K hK => ?_) AllReadyH.nil
   go_simp
   refine hK.out _ _ trivial (fun _ => ?_)
   clear hK K
   try simp only [Act.put, laS]
   refine wpAnyH_done (by kernel_rfl) ?_ _
   have c4' : World.cell? (w3.setCell ⟨b, 2, none⟩ (.slice (some ⟨g, 0, none⟩) (r.l.length + 1) cap3)) ⟨b, 2, none⟩ = some (.slice (some ⟨g, 0, none⟩) (r.l.length + 1) cap3) := c4.trans rfl
   have ew : IntKind.i64.wrap ((r.l.length : Int) + 1 - 1) = (r.l.length : Int) := by simp [IntKind.wrap, IntKind.signed, IntKind.bits]; omega
   have ew2 : IntKind.i64.wrap (r.l.length : Int) = (r.l.length : Int) := by simp [IntKind.wrap, IntKind.signed, IntKind.bits]; omega
   clear c4
   go_wp2
   go_ret
   refine ⟨?_, _, HFN.out.1, HFN.out.2⟩
   rw [put_len x hc]
   simp
  ·go_simp
   refine hK.out _ _ trivial (fun _ => ?_)
   clear hK K
   try simp only [Act.put, laS]
   refine wpAnyH_ready (rs := [4, 6]) (by kernel_rfl) (by simp) ?_
   refine AllReadyH.cons rfl (fun K hK => ?_) (AllReadyH.cons rfl (fun K hK => ?_) AllReadyH.nil)
   ·go_simp
    refine hK.out _ _ trivial (fun _ => ?_)
    clear hK K
    try simp only [Act.put, laS]
    refine wpAnyH_ready (rs := [6]) (by kernel_rfl) (by simp) ?_
    refine AllReadyH.cons rfl (fun K hK => ?_) AllReadyH.nil
    go_simp
    refine hK.out _ _ trivial (fun _ => ?_)
    clear hK K
    try simp only [Act.put, laS]
    refine wpAnyH_ready (rs := [7]) (by kernel_rfl) (by simp) ?_
    refine AllReadyH.cons rfl (fun K hK => ?_) AllReadyH.nil
    rw [if_pos (by kernel_rfl)]
    refine wp_append_lies (P := Tryz.prog) _ _ _ 31 rfl 0 37 i0 (.agg #[.int .i64 0, .int .u64 0, .int .u64 0, .int .u64 0, .int .u64 0, .int .i64 0, .int .i64 0, .int .i64 0, .int .i64 0, .int .i64 0]) 10 80 Tryz.underlying31 hi hz0 hz1 hz2 rfl (by decide) _ r.l.length _ rfl HOA.out ⟨w.heap.size + 1, 0, none⟩ 1 1 x.cells.toList rfl rfl HCE.out (cells_one x) (by decide) (by unfold maxLen; omega) (by omega) (Nat.zero_le _) _ rfl ?_
    intro g cap3 w3 hown3 hgrow3 hat3 hlt3
    replace hgrow3 : (((w.alloc (.cells #[.int .i64 x.kind, .int .u64 x.w0, .int .u64 x.w1, .int .u64 x.w2, .int .u64 x.w3, .int .i64 x.a, .int .i64 x.b, .int .i64 x.mn, .int .i64 x.mx, .int .i64 x.n] 37)).alloc (.cells #[.int .i64 x.kind, .int .u64 x.w0, .int .u64 x.w1, .int .u64 x.w2, .int .u64 x.w3, .int .i64 x.a, .int .i64 x.b, .int .i64 x.mn, .int .i64 x.mx, .int .i64 x.n] 37)).drew).grownBy w3 (Value.slice o r.l.length cap).ownBlock := hgrow3
    replace hat3 : (Value.slice o r.l.length cap).ownBlock = some g ∨ g = (((w.alloc (.cells #[.int .i64 x.kind, .int .u64 x.w0, .int .u64 x.w1, .int .u64 x.w2, .int .u64 x.w3, .int .i64 x.a, .int .i64 x.b, .int .i64 x.mn, .int .i64 x.mx, .int .i64 x.n] 37)).alloc (.cells #[.int .i64 x.kind, .int .u64 x.w0, .int .u64 x.w1, .int .u64 x.w2, .int .u64 x.w3, .int .i64 x.a, .int .i64 x.b, .int .i64 x.mn, .int .i64 x.mx, .int .i64 x.n] 37)).drew).heap.size := hat3
    have hsA : (((w.alloc (.cells #[.int .i64 x.kind, .int .u64 x.w0, .int .u64 x.w1, .int .u64 x.w2, .int .u64 x.w3, .int .i64 x.a, .int .i64 x.b, .int .i64 x.mn, .int .i64 x.mx, .int .i64 x.n] 37)).alloc (.cells #[.int .i64 x.kind, .int .u64 x.w0, .int .u64 x.w1, .int .u64 x.w2, .int .u64 x.w3, .int .i64 x.a, .int .i64 x.b, .int .i64 x.mn, .int .i64 x.mx, .int .i64 x.n] 37)).drew).heap.size = w.heap.size + 1 + 1 := by show ((w.alloc (.cells #[.int .i64 x.kind, .int .u64 x.w0, .int .u64 x.w1, .int .u64 x.w2, .int .u64 x.w3, .int .i64 x.a, .int .i64 x.b, .int .i64 x.mn, .int .i64 x.mx, .int .i64 x.n] 37)).alloc (.cells #[.int .i64 x.kind, .int .u64 x.w0, .int .u64 x.w1, .int .u64 x.w2, .int .u64 x.w3, .int .i64 x.a, .int .i64 x.b, .int .i64 x.mn, .int .i64 x.mx, .int .i64 x.n] 37)).heap.size = _; rw [World.size_alloc, World.size_alloc]
    have hb3 : w3.heap[b]? = some (.cells (rcells s r (.slice o r.l.length cap)) 156 (0, 0)) := (hgrow3.block b (by rw [hsA]; omega) (fun e => H.out.ob e.symm)).trans HBA.out
    have c3 : w3.cell? ⟨b, 2, none⟩ = some (.slice o r.l.length cap) := (cell_of _ _ _ _ hb3 2).trans rfl
    have f3 := frozen_of _ _ _ _ hb3 2
    have hgb : g ≠ b := by
     rcases hat3 with e | e
     ·intro q; exact H.out.ob (by rw [e, q])
     ·rw [hsA] at e; omega
    have hfin := put_fin x H.out hgrow3 hsA hb3 hown3 hgb (by rcases hat3 with e | e; exact .inl e; exact .inr (by rw [hsA] at e; omega)) HKA.out hc
    have c4 := hfin.1.cell 2
    have HFN := Lib.hid hfin
    clear hfin hown3 hgrow3 hat3 hb3
    refine hK.out _ _ trivial (fun _ => ?_)
    clear hK K
    try simp only [Act.put, laS]
    refine wpAnyH_take (i := 8) (v := ?_) rfl (by kernel_rfl) (by kernel_rfl) (by kernel_rfl) (fun _ _ _ h => h) (Or.inl ⟨by kernel_rfl, ?_⟩) (by trivial) ?_
    rotate_left
    ·(intro w hSw; (try dsimp only at hSw); go_simp); (try with_reducible rfl)
    try simp only [Act.put, laS]
    refine wpAnyH_take (i := 9) (v := ?_) rfl (by kernel_rfl) (by kernel_rfl) (by kernel_rfl) (fun _ _ _ h => h) (Or.inl ⟨by kernel_rfl, ?_⟩) (by trivial) ?_
    rotate_left
    ·(intro w hSw; (try dsimp only at hSw); go_simp); (try with_reducible rfl)
    try simp only [Act.put, laS]
    refine wpAnyH_ready (rs := [10]) (by kernel_rfl) (by simp) ?_
    refine AllReadyH.cons rfl (fun K hK => ?_) AllReadyH.nil
    go_simp
    refine hK.out _ _ trivial (fun _ => ?_)
    clear hK K
    try simp only [Act.put, laS]
    refine wpAnyH_done (by kernel_rfl) ?_ _
    have c4' : World.cell? (w3.setCell ⟨b, 2, none⟩ (.slice (some ⟨g, 0, none⟩) (r.l.length + 1) cap3)) ⟨b, 2, none⟩ = some (.slice (some ⟨g, 0, none⟩) (r.l.length + 1) cap3) := c4.trans rfl
    have ew : IntKind.i64.wrap ((r.l.length : Int) + 1 - 1) = (r.l.length : Int) := by simp [IntKind.wrap, IntKind.signed, IntKind.bits]; omega
    have ew2 : IntKind.i64.wrap (r.l.length : Int) = (r.l.length : Int) := by simp [IntKind.wrap, IntKind.signed, IntKind.bits]; omega
    clear c4
    go_wp2
    go_ret
    refine ⟨?_, _, HFN.out.1, HFN.out.2⟩
    rw [put_len x hc]
    simp
   ·go_simp
    refine hK.out _ _ trivial (fun _ => ?_)
    clear hK K
    try simp only [Act.put, laS]
    refine wpAnyH_ready (rs := [4]) (by kernel_rfl) (by simp) ?_
    refine AllReadyH.cons rfl (fun K hK => ?_) AllReadyH.nil
    go_simp
    refine hK.out _ _ trivial (fun _ => ?_)
    clear hK K
    try simp only [Act.put, laS]
    refine wpAnyH_ready (rs := [7]) (by kernel_rfl) (by simp) ?_
    refine AllReadyH.cons rfl (fun K hK => ?_) AllReadyH.nil
    rw [if_pos (by kernel_rfl)]
    refine wp_append_lies (P := Tryz.prog) _ _ _ 31 rfl 0 37 i0 (.agg #[.int .i64 0, .int .u64 0, .int .u64 0, .int .u64 0, .int .u64 0, .int .i64 0, .int .i64 0, .int .i64 0, .int .i64 0, .int .i64 0]) 10 80 Tryz.underlying31 hi hz0 hz1 hz2 rfl (by decide) _ r.l.length _ rfl HOA.out ⟨w.heap.size + 1, 0, none⟩ 1 1 x.cells.toList rfl rfl HCE.out (cells_one x) (by decide) (by unfold maxLen; omega) (by omega) (Nat.zero_le _) _ rfl ?_
    intro g cap3 w3 hown3 hgrow3 hat3 hlt3
    replace hgrow3 : (((w.alloc (.cells #[.int .i64 x.kind, .int .u64 x.w0, .int .u64 x.w1, .int .u64 x.w2, .int .u64 x.w3, .int .i64 x.a, .int .i64 x.b, .int .i64 x.mn, .int .i64 x.mx, .int .i64 x.n] 37)).alloc (.cells #[.int .i64 x.kind, .int .u64 x.w0, .int .u64 x.w1, .int .u64 x.w2, .int .u64 x.w3, .int .i64 x.a, .int .i64 x.b, .int .i64 x.mn, .int .i64 x.mx, .int .i64 x.n] 37)).drew).grownBy w3 (Value.slice o r.l.length cap).ownBlock := hgrow3
    replace hat3 : (Value.slice o r.l.length cap).ownBlock = some g ∨ g = (((w.alloc (.cells #[.int .i64 x.kind, .int .u64 x.w0, .int .u64 x.w1, .int .u64 x.w2, .int .u64 x.w3, .int .i64 x.a, .int .i64 x.b, .int .i64 x.mn, .int .i64 x.mx, .int .i64 x.n] 37)).alloc (.cells #[.int .i64 x.kind, .int .u64 x.w0, .int .u64 x.w1, .int .u64 x.w2, .int .u64 x.w3, .int .i64 x.a, .int .i64 x.b, .int .i64 x.mn, .int .i64 x.mx, .int .i64 x.n] 37)).drew).heap.size := hat3
    have hsA : (((w.alloc (.cells #[.int .i64 x.kind, .int .u64 x.w0, .int .u64 x.w1, .int .u64 x.w2, .int .u64 x.w3, .int .i64 x.a, .int .i64 x.b, .int .i64 x.mn, .int .i64 x.mx, .int .i64 x.n] 37)).alloc (.cells #[.int .i64 x.kind, .int .u64 x.w0, .int .u64 x.w1, .int .u64 x.w2, .int .u64 x.w3, .int .i64 x.a, .int .i64 x.b, .int .i64 x.mn, .int .i64 x.mx, .int .i64 x.n] 37)).drew).heap.size = w.heap.size + 1 + 1 := by show ((w.alloc (.cells #[.int .i64 x.kind, .int .u64 x.w0, .int .u64 x.w1, .int .u64 x.w2, .int .u64 x.w3, .int .i64 x.a, .int .i64 x.b, .int .i64 x.mn, .int .i64 x.mx, .int .i64 x.n] 37)).alloc (.cells #[.int .i64 x.kind, .int .u64 x.w0, .int .u64 x.w1, .int .u64 x.w2, .int .u64 x.w3, .int .i64 x.a, .int .i64 x.b, .int .i64 x.mn, .int .i64 x.mx, .int .i64 x.n] 37)).heap.size = _; rw [World.size_alloc, World.size_alloc]
    have hb3 : w3.heap[b]? = some (.cells (rcells s r (.slice o r.l.length cap)) 156 (0, 0)) := (hgrow3.block b (by rw [hsA]; omega) (fun e => H.out.ob e.symm)).trans HBA.out
    have c3 : w3.cell? ⟨b, 2, none⟩ = some (.slice o r.l.length cap) := (cell_of _ _ _ _ hb3 2).trans rfl
    have f3 := frozen_of _ _ _ _ hb3 2
    have hgb : g ≠ b := by
     rcases hat3 with e | e
     ·intro q; exact H.out.ob (by rw [e, q])
     ·rw [hsA] at e; omega
    have hfin := put_fin x H.out hgrow3 hsA hb3 hown3 hgb (by rcases hat3 with e | e; exact .inl e; exact .inr (by rw [hsA] at e; omega)) HKA.out hc
    have c4 := hfin.1.cell 2
    have HFN := Lib.hid hfin
    clear hfin hown3 hgrow3 hat3 hb3
    refine hK.out _ _ trivial (fun _ => ?_)
    clear hK K
    try simp only [Act.put, laS]
    refine wpAnyH_take (i := 8) (v := ?_) rfl (by kernel_rfl) (by kernel_rfl) (by kernel_rfl) (fun _ _ _ h => h) (Or.inl ⟨by kernel_rfl, ?_⟩) (by trivial) ?_
    rotate_left
    ·(intro w hSw; (try dsimp only at hSw); go_simp); (try with_reducible rfl)
    try simp only [Act.put, laS]
    refine wpAnyH_take (i := 9) (v := ?_) rfl (by kernel_rfl) (by kernel_rfl) (by kernel_rfl) (fun _ _ _ h => h) (Or.inl ⟨by kernel_rfl, ?_⟩) (by trivial) ?_
    rotate_left
    ·(intro w hSw; (try dsimp only at hSw); go_simp); (try with_reducible rfl)
    try simp only [Act.put, laS]
    refine wpAnyH_ready (rs := [10]) (by kernel_rfl) (by simp) ?_
    refine AllReadyH.cons rfl (fun K hK => ?_) AllReadyH.nil
    go_simp
    refine hK.out _ _ trivial (fun _ => ?_)
    clear hK K
    try simp only [Act.put, laS]
    refine wpAnyH_done (by kernel_rfl) ?_ _
    have c4' : World.cell? (w3.setCell ⟨b, 2, none⟩ (.slice (some ⟨g, 0, none⟩) (r.l.length + 1) cap3)) ⟨b, 2, none⟩ = some (.slice (some ⟨g, 0, none⟩) (r.l.length + 1) cap3) := c4.trans rfl
    have ew : IntKind.i64.wrap ((r.l.length : Int) + 1 - 1) = (r.l.length : Int) := by simp [IntKind.wrap, IntKind.signed, IntKind.bits]; omega
    have ew2 : IntKind.i64.wrap (r.l.length : Int) = (r.l.length : Int) := by simp [IntKind.wrap, IntKind.signed, IntKind.bits]; omega
    clear c4
    go_wp2
    go_ret
    refine ⟨?_, _, HFN.out.1, HFN.out.2⟩
    rw [put_len x hc]
    simp
 ·have g1 : ((r.l.length : Int) ≤ 120) = False := by simp; omega
  have ew : IntKind.i64.wrap ((r.l.length : Int) - 1) = (r.l.length : Int) - 1 := by simp [IntKind.wrap, IntKind.signed, IntKind.bits]; omega
  have HB := Lib.hid h1
  have HK := Lib.hid (RK.below (b := b) (v := .slice o r.l.length cap) hbx)
  clear h1 h hbx
  go_enter Tryz.func146, Tryz.ntmps146
  go_wp2
  go_ret
  rw [put_full x hc]
  exact ⟨rfl, _, HB.out, HK.out⟩
end
end Go.Proofs.YtdjcgjkbecncaaaGreatDoor
namespace Go.Proofs.YtdjcgjkbecncaaaGreatDoor
open Go.RowKit
theorem equal_in (b o cap b' o' cap' n : Nat) (xs ys : List Nd) (hlx : xs.length = n) (hly : ys.length = n) (hn : n ≤ 1000) (hfx : ∀ (i : Nat) (x : Nd), xs[i]? = some x → x.Fits) (hfy : ∀ (i : Nat) (x : Nd), ys[i]? = some x → x.Fits) (w : World) (hx : NodesAt w b o xs) (hy : NodesAt w b' o' ys) :
  Calls Tryz.prog 38 #[.slice (some ⟨b, o, none⟩) n cap, .slice (some ⟨b', o', none⟩) n cap'] w fun e w' => e = .returned (.bool (decide (xs = ys))) ∧ Below w.heap.size w w' := by
 have HFX := Lib.hid hfx
 have HFY := Lib.hid hfy
 obtain ⟨r, hr⟩ : ∃ r, r = decide (xs = ys) := ⟨_, rfl⟩
 rw [← hr]
 have HR := Lib.hid hr
 clear hfx hfy hr
 go_enter Tryz.func38, Tryz.ntmps38
 go_wp2
 go_loopw [13] (fun i wr => ∃ k : Nat, k ≤ n ∧ i = .int .i64 k ∧ (∀ j, j < k → xs[j]? = ys[j]?) ∧ Below w.heap.size w wr) (fun i _ => n - (RowKit.intOf i).toNat)
 case atStart => exact ⟨0, by omega, rfl, fun j hj => absurd hj (by omega), Below.refl _ _⟩
 case round =>
  obtain ⟨k, hk, rfl, hg, hB⟩ := hrel
  by_cases hlt : k < n
  ·obtain ⟨x, hxk⟩ : ∃ x, xs[k]? = some x := ⟨xs[k]'(by omega), List.getElem?_eq_getElem (by omega)⟩
   obtain ⟨y, hyk⟩ : ∃ x, ys[k]? = some x := ⟨ys[k]'(by omega), List.getElem?_eq_getElem (by omega)⟩
   have hq := fun W => eq_nd x y (HFX.out k x hxk) (HFY.out k y hyk) W
   have hgl : x = y → ∀ j, j < k + 1 → xs[j]? = ys[j]? := fun e j hj => by
    by_cases e2 : j = k
    ·subst e2; rw [hxk, hyk, e]
    ·exact hg j (by omega)
   have hgf : x ≠ y → r = false := fun e => by
    rw [HR.out, decide_eq_false_iff_not]
    intro e2
    rw [e2, hyk] at hxk
    exact e (Option.some.inj hxk).symm
   have d := (hx.below hB hx.lt).cell k x hxk
   have e := (hy.below hB hy.lt).cell k y hyk
   have lB := hB.size
   obtain ⟨kd, w0, w1, w2, w3, xa, xb, m, M, xn⟩ := x
   obtain ⟨kd', w0', w1', w2', w3', xa', xb', m', M', xn'⟩ := y
   have d0 : wr.cell? ⟨b, o + k * 10, none⟩ = some (.int .i64 kd) := d 0 _ rfl
   have d1 : wr.cell? ⟨b, o + k * 10 + 1, none⟩ = some (.int .u64 w0) := d 1 _ rfl
   have d2 : wr.cell? ⟨b, o + k * 10 + 2, none⟩ = some (.int .u64 w1) := d 2 _ rfl
   have d3 : wr.cell? ⟨b, o + k * 10 + 3, none⟩ = some (.int .u64 w2) := d 3 _ rfl
   have d4 : wr.cell? ⟨b, o + k * 10 + 4, none⟩ = some (.int .u64 w3) := d 4 _ rfl
   have d5 : wr.cell? ⟨b, o + k * 10 + 5, none⟩ = some (.int .i64 xa) := d 5 _ rfl
   have d6 : wr.cell? ⟨b, o + k * 10 + 6, none⟩ = some (.int .i64 xb) := d 6 _ rfl
   have d7 : wr.cell? ⟨b, o + k * 10 + 7, none⟩ = some (.int .i64 m) := d 7 _ rfl
   have d8 : wr.cell? ⟨b, o + k * 10 + 8, none⟩ = some (.int .i64 M) := d 8 _ rfl
   have d9 : wr.cell? ⟨b, o + k * 10 + 9, none⟩ = some (.int .i64 xn) := d 9 _ rfl
   have e0 : wr.cell? ⟨b', o' + k * 10, none⟩ = some (.int .i64 kd') := e 0 _ rfl
   have e1 : wr.cell? ⟨b', o' + k * 10 + 1, none⟩ = some (.int .u64 w0') := e 1 _ rfl
   have e2 : wr.cell? ⟨b', o' + k * 10 + 2, none⟩ = some (.int .u64 w1') := e 2 _ rfl
   have e3 : wr.cell? ⟨b', o' + k * 10 + 3, none⟩ = some (.int .u64 w2') := e 3 _ rfl
   have e4 : wr.cell? ⟨b', o' + k * 10 + 4, none⟩ = some (.int .u64 w3') := e 4 _ rfl
   have e5 : wr.cell? ⟨b', o' + k * 10 + 5, none⟩ = some (.int .i64 xa') := e 5 _ rfl
   have e6 : wr.cell? ⟨b', o' + k * 10 + 6, none⟩ = some (.int .i64 xb') := e 6 _ rfl
   have e7 : wr.cell? ⟨b', o' + k * 10 + 7, none⟩ = some (.int .i64 m') := e 7 _ rfl
   have e8 : wr.cell? ⟨b', o' + k * 10 + 8, none⟩ = some (.int .i64 M') := e 8 _ rfl
   have e9 : wr.cell? ⟨b', o' + k * 10 + 9, none⟩ = some (.int .i64 xn') := e 9 _ rfl
   clear d e hxk hyk hg
   unfold Nd.v Nd.cells at hq
   dsimp only at hq
   have HGL := Lib.hid hgl
   have HGF := Lib.hid hgf
   clear hgl hgf HR HFX HFY
   by_cases hxy : (⟨kd, w0, w1, w2, w3, xa, xb, m, M, xn⟩ : Nd) = ⟨kd', w0', w1', w2', w3', xa', xb', m', M', xn'⟩
   ·rw [decide_eq_true hxy] at hq
    have HG := Lib.hid (HGL.out hxy)
    clear hxy HGL HGF
    go_wp2_with fail
    go_quiet (fail)
    go_wp2
    go_roundw
    case rel => exact ⟨k + 1, by omega, by simp, HG.out, Go.below_drewN hB _⟩
    case measure => (simp [RowKit.intOf]) <;> omega
   ·rw [decide_eq_false hxy] at hq
    obtain rfl := HGF.out hxy
    clear hxy HGL HGF
    go_wp2_with fail
    go_quiet (fail)
    go_wp2
    go_ret
    exact ⟨rfl, Go.below_drewN hB _⟩
  ·obtain rfl : k = n := by omega
   obtain rfl : r = true := by
    rw [HR.out, decide_eq_true_iff]
    apply List.ext_getElem?
    intro i
    rcases Nat.lt_or_ge i k with h | h
    ·exact hg i h
    ·rw [List.getElem?_eq_none (by omega), List.getElem?_eq_none (by omega)]
   clear HR HFX HFY hg
   go_wp2
   go_ret
   exact ⟨rfl, hB⟩
theorem equal_out (p q : Option Addr) (n m cap cap' : Nat) (hne : n ≠ m) (hn : n < 9223372036854775807) (hm : m < 9223372036854775807) (w : World) :
  Calls Tryz.prog 38 #[.slice p n cap, .slice q m cap'] w fun e w' => e = .returned (.bool false) ∧ Below w.heap.size w w' := by
 have h1 : ((n : Int) == (m : Int)) = false := by rw [beq_eq_false_iff_ne]; omega
 have h2 : ((n : Int) != (m : Int)) = true := by rw [bne_iff_ne]; omega
 clear hne
 go_enter Tryz.func38, Tryz.ntmps38
 go_wp2
 go_ret
 exact ⟨rfl, Below.refl _ _⟩
theorem equal_nil (p q : Option Addr) (cap cap' : Nat) (w : World) :
  Calls Tryz.prog 38 #[.slice p 0 cap, .slice q 0 cap'] w fun e w' => e = .returned (.bool true) ∧ Below w.heap.size w w' := by
 go_enter Tryz.func38, Tryz.ntmps38
 go_wp2
 go_loopw [13] (fun i wr => i = .int .i64 0 ∧ Below w.heap.size w wr) (fun i _ => 0)
 case atStart => exact ⟨rfl, Below.refl _ _⟩
 case round =>
  obtain ⟨rfl, hB⟩ := hrel
  go_wp2
  go_ret
  exact ⟨rfl, hB⟩
theorem equal_c (p q : Option Addr) (n m cap cap' : Nat) (xs ys : List Nd) (hn : n ≤ 1000) (w : World) (hx : Nodes w p n xs) (hy : Nodes w q m ys) :
  Calls Tryz.prog 38 #[.slice p n cap, .slice q m cap'] w fun e w' => e = .returned (.bool (decide (xs = ys))) ∧ Below w.heap.size w w' := by
 by_cases hnm : n = m
 ·subst hnm
  by_cases h1 : 1 ≤ n
  ·obtain ⟨b, o, rfl⟩ := hx.ptr h1
   obtain ⟨b', o', rfl⟩ := hy.ptr h1
   exact equal_in b o cap b' o' cap' n xs ys hx.len hy.len hn hx.fits hy.fits w (hx.at' h1 b o rfl) (hy.at' h1 b' o' rfl)
  ·obtain rfl : n = 0 := by omega
   have e1 := List.eq_nil_of_length_eq_zero hx.len
   have e2 := List.eq_nil_of_length_eq_zero hy.len
   subst e1; subst e2
   exact equal_nil p q cap cap' w
 ·have hne : xs ≠ ys := fun e => hnm (by rw [← hx.len, ← hy.len, e])
  rw [decide_eq_false hne]
  exact equal_out p q n m cap cap' hnm hx.small hy.small w
end Go.Proofs.YtdjcgjkbecncaaaGreatDoor
