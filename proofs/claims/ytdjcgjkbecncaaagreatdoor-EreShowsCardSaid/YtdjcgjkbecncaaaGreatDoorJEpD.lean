/- ere: a node is put behind all others. -/
import Derived.Test.YtdjcgjkbecncaaaGreatDoorJEpB
import Derived.Test.YtdjcgjkbecncaaaGreatDoorJBrKe
set_option linter.unusedVariables false
set_option linter.unusedSimpArgs false
set_option maxRecDepth 100000
set_option maxHeartbeats 40000000
namespace Go.Proofs.YtdjcgjkbecncaaaGreatDoor
open Go.RowKit
theorem eput_l {r : ES} (x : Nd) (hc : r.l.length ≤ 120) : (r.put x).l = r.l ++ [x] := by
 show (if r.l.length ≤ 120 then r.l ++ [x] else r.l) = _
 rw [if_pos hc]
theorem eput_len {r : ES} (x : Nd) (hc : r.l.length ≤ 120) : (r.put x).l.length = r.l.length + 1 := by rw [eput_l x hc]; simp
theorem eput_full {r : ES} (x : Nd) (hc : ¬ r.l.length ≤ 120) : r.put x = r := by
 unfold ES.put
 rw [if_neg hc]
theorem eput_fin {B b mb : Nat} {mo : Obj} {s : List UInt8} {r : ES} {vl vL : Value} {vo : List (Value × Value)} {vt : Value × Value} {w WA w3 : World} {g cap3 H : Nat} (x : Nd) (h : EM B b mb mo s r vl vL vo vt w) (hgrow : WA.grownBy w3 vl.ownBlock) (hH : WA.heap.size = H)
  (hb3 : w3.heap[b]? = some (.cells (ecells s r vl vL) 58 (0, 0)))
  (hown : w3.ownsRow B 37 10 (.slice (some ⟨g, 0, none⟩) (r.l.length + 1) cap3) (r.l.length + 1) (flat r.l ++ x.cells.toList)) (hwa : Below w.heap.size w WA) (hc : r.l.length ≤ 120) :
  EM B b mb mo s (r.put x) (.slice (some ⟨g, 0, none⟩) (r.l.length + 1) cap3) vL vo vt (w3.setCell ⟨b, 2, none⟩ (.slice (some ⟨g, 0, none⟩) (r.l.length + 1) cap3)) ∧ EK B b w (w3.setCell ⟨b, 2, none⟩ (.slice (some ⟨g, 0, none⟩) (r.l.length + 1) cap3)) := by
 have hfl : flat (r.l ++ [x]) = flat r.l ++ x.cells.toList := by simp [flat]
 have hlt := h.lt
 have hge := h.ge
 have hw := hwa.size
 have gr0 : w3.grownBy w3 (some b) := ⟨rfl, rfl, rfl, Nat.le_refl _, fun _ _ _ => rfl⟩
 have gr := grown_setc gr0 2 (.slice (some ⟨g, 0, none⟩) (r.l.length + 1) cap3)
 have hob := own_blk hown hb3 (by decide)
 have hK : KeepT [37] b w (w3.setCell ⟨b, 2, none⟩ (.slice (some ⟨g, 0, none⟩) (r.l.length + 1) cap3)) := fun k o hk hne ho => by
  have hkl := (Array.getElem?_eq_some_iff.1 hk).1
  rw [Below.heap_setCell _ _ _ _ (fun e => hne e), hgrow.block k (by omega) (fun e => ?_), hwa.block k hkl]
  ·exact hk
  ·obtain ⟨c, hc2⟩ := own_block h.P.nl e.symm
   rw [hc2] at hk
   cases hk
   exact ho _ (by simp) _ _ rfl
 have hBl : Below B w (w3.setCell ⟨b, 2, none⟩ (.slice (some ⟨g, 0, none⟩) (r.l.length + 1) cap3)) := ((hwa.mono (by omega)).grown hgrow (by omega) (fun k hk => (h.P.nl.lt k hk).1)).setCell (p := ⟨b, 2, none⟩) hge _
 refine ⟨⟨?_, hge, hK mb _ h.map h.mb_ne (fun T _ c fz e => by have := h.nc; rw [e] at this; cases this), h.nc, ?_, h.len, h.small, h.gs⟩, ⟨hBl, hK⟩⟩
 ·rw [heap_setCell_same _ b 2 _ _ _ hb3]; rfl
 ·refine h.P.keepT h.heap rfl hK ?_ (by rw [eput_len x hc]; omega)
  rw [eput_l x hc, hfl, List.length_append]
  exact hown.kept gr (.inr hob)
section
variable {B b mb : Nat} {mo : Obj} {s : List UInt8} {r : ES} {vl vL : Value} {vo : List (Value × Value)} {vt : Value × Value}
theorem eput_c (x : Nd) (w : World) (h : EM B b mb mo s r vl vL vo vt w) :
  Calls Tryz.prog 102 #[.pointer (some ⟨b, 0, none⟩), .agg #[.int .i64 x.kind, .int .u64 x.w0, .int .u64 x.w1, .int .u64 x.w2, .int .u64 x.w3, .int .i64 x.a, .int .i64 x.b, .int .i64 x.mn, .int .i64 x.mx, .int .i64 x.n]] w fun e w' => e = .returned (.int .i64 (r.put x).idx) ∧ ∃ vl', EM B b mb mo s (r.put x) vl' vL vo vt w' ∧ EK B b w w' := by
 obtain ⟨i0, hi, hz0, hz1, hz2⟩ := info_parts infoNd
 obtain ⟨o, cap, rfl⟩ := h.slice
 have hlt := h.lt
 have hge := h.ge
 have hl := h.P.nodes
 have hbx : Below w.heap.size w (w.alloc (.cells #[.int .i64 x.kind, .int .u64 x.w0, .int .u64 x.w1, .int .u64 x.w2, .int .u64 x.w3, .int .i64 x.a, .int .i64 x.b, .int .i64 x.mn, .int .i64 x.mx, .int .i64 x.n] 37)) := (Below.refl _ w).alloc (Nat.le_refl _) _
 have h1 := h.below hbx
 have d2 : w.cell? ⟨b, 2, none⟩ = some (.slice o r.l.length cap) := (h.cell 2).trans rfl
 have e2 := h.fz 2
 by_cases hc : r.l.length ≤ 120
 ·have g1 : ((r.l.length : Int) ≤ 120) = True := by simp; omega
  have hbA : Below w.heap.size w (((w.alloc (.cells #[.int .i64 x.kind, .int .u64 x.w0, .int .u64 x.w1, .int .u64 x.w2, .int .u64 x.w3, .int .i64 x.a, .int .i64 x.b, .int .i64 x.mn, .int .i64 x.mx, .int .i64 x.n] 37)).alloc (.cells #[.int .i64 x.kind, .int .u64 x.w0, .int .u64 x.w1, .int .u64 x.w2, .int .u64 x.w3, .int .i64 x.a, .int .i64 x.b, .int .i64 x.mn, .int .i64 x.mx, .int .i64 x.n] 37)).drew) := (hbx.alloc hbx.size _).drew
  have hA := h.below hbA
  have hce : ∀ j u, x.cells.toList[j]? = some u → (((w.alloc (.cells #[.int .i64 x.kind, .int .u64 x.w0, .int .u64 x.w1, .int .u64 x.w2, .int .u64 x.w3, .int .i64 x.a, .int .i64 x.b, .int .i64 x.mn, .int .i64 x.mx, .int .i64 x.n] 37)).alloc (.cells #[.int .i64 x.kind, .int .u64 x.w0, .int .u64 x.w1, .int .u64 x.w2, .int .u64 x.w3, .int .i64 x.a, .int .i64 x.b, .int .i64 x.mn, .int .i64 x.mx, .int .i64 x.n] 37)).drew).cell? ((⟨w.heap.size + 1, 0, none⟩ : Addr).add j) = some u := fun j u hj => by
   have hh : (((w.alloc (.cells #[.int .i64 x.kind, .int .u64 x.w0, .int .u64 x.w1, .int .u64 x.w2, .int .u64 x.w3, .int .i64 x.a, .int .i64 x.b, .int .i64 x.mn, .int .i64 x.mx, .int .i64 x.n] 37)).alloc (.cells #[.int .i64 x.kind, .int .u64 x.w0, .int .u64 x.w1, .int .u64 x.w2, .int .u64 x.w3, .int .i64 x.a, .int .i64 x.b, .int .i64 x.mn, .int .i64 x.mx, .int .i64 x.n] 37)).drew).heap[w.heap.size + 1]? = some (.cells x.cells 37 (0, 0)) := by
    have := heap_new (w.alloc (.cells #[.int .i64 x.kind, .int .u64 x.w0, .int .u64 x.w1, .int .u64 x.w2, .int .u64 x.w3, .int .i64 x.a, .int .i64 x.b, .int .i64 x.mn, .int .i64 x.mx, .int .i64 x.n] 37)) (.cells #[.int .i64 x.kind, .int .u64 x.w0, .int .u64 x.w1, .int .u64 x.w2, .int .u64 x.w3, .int .i64 x.a, .int .i64 x.b, .int .i64 x.mn, .int .i64 x.mx, .int .i64 x.n] 37)
    rw [World.size_alloc] at this
    exact this
   rw [Addr.add_lit, Nat.zero_add, cell_of _ _ _ _ hh]
   simpa using hj
  have HOA := Lib.hid hA.P.nl
  have HBA := Lib.hid hA.heap
  have HSA : Hid (B ≤ (((w.alloc (.cells #[.int .i64 x.kind, .int .u64 x.w0, .int .u64 x.w1, .int .u64 x.w2, .int .u64 x.w3, .int .i64 x.a, .int .i64 x.b, .int .i64 x.mn, .int .i64 x.mx, .int .i64 x.n] 37)).alloc (.cells #[.int .i64 x.kind, .int .u64 x.w0, .int .u64 x.w1, .int .u64 x.w2, .int .u64 x.w3, .int .i64 x.a, .int .i64 x.b, .int .i64 x.mn, .int .i64 x.mx, .int .i64 x.n] 37)).drew).heap.size) := Lib.hid (by show B ≤ ((w.alloc (.cells #[.int .i64 x.kind, .int .u64 x.w0, .int .u64 x.w1, .int .u64 x.w2, .int .u64 x.w3, .int .i64 x.a, .int .i64 x.b, .int .i64 x.mn, .int .i64 x.mx, .int .i64 x.n] 37)).alloc (.cells #[.int .i64 x.kind, .int .u64 x.w0, .int .u64 x.w1, .int .u64 x.w2, .int .u64 x.w3, .int .i64 x.a, .int .i64 x.b, .int .i64 x.mn, .int .i64 x.mx, .int .i64 x.n] 37)).heap.size; rw [World.size_alloc, World.size_alloc]; omega)
  have HOB := Lib.hid (own_blk h.P.nl h.heap (by decide))
  have HCE := Lib.hid hce
  have HKA := Lib.hid hbA
  have H := Lib.hid h
  clear h h1 hA hce hbA hbx
  go_enter Tryz.func102, Tryz.ntmps102
  go_wp2_with fail
  refine wp_region_held_drew (S := fun _ => True) (by kernel_rfl) trivial (fun _ => ?_)
  refine wpAnyH_take (i := 0) (v := ?_) rfl (by kernel_rfl) (by kernel_rfl) (by kernel_rfl) (fun _ _ _ h => h) (Or.inl ⟨by kernel_rfl, ?_⟩) (by trivial) ?_
  rotate_left
  ·(intro w hSw; (try dsimp only at hSw); go_simp); (try with_reducible rfl)
  try simp only [Act.put, laS]
  refine wpAnyH_take (i := 1) (v := ?_) rfl (by kernel_rfl) (by kernel_rfl) (by kernel_rfl) (fun _ _ _ h => h) (Or.inl ⟨by kernel_rfl, ?_⟩) (by trivial) ?_
  rotate_left
  ·(intro w hSw; (try dsimp only at hSw); go_simp); (try with_reducible rfl)
  try simp only [Act.put, laS]
  refine wpAnyH_take (i := 2) (v := ?_) rfl (by kernel_rfl) (by kernel_rfl) (by kernel_rfl) (fun _ _ _ h => h) (Or.inl ⟨by kernel_rfl, ?_⟩) (by trivial) ?_
  rotate_left
  ·(intro w hSw; (try dsimp only at hSw); go_simp); (try with_reducible rfl)
  try simp only [Act.put, laS]
  refine wpAnyH_take (i := 3) (v := ?_) rfl (by kernel_rfl) (by kernel_rfl) (by kernel_rfl) (fun _ _ _ h => h) (Or.inl ⟨by kernel_rfl, ?_⟩) (by trivial) ?_
  rotate_left
  ·(intro w hSw; (try dsimp only at hSw); go_simp); (try with_reducible rfl)
  try simp only [Act.put, laS]
  refine wpAnyH_ready (rs := [4, 5]) (by kernel_rfl) (by simp) ?_
  refine AllReadyH.cons rfl (fun K hK => ?_) (AllReadyH.cons rfl (fun K hK => ?_) AllReadyH.nil)
  ·go_simp
   refine hK.out _ _ trivial (fun _ => ?_)
   clear hK K
   try simp only [Act.put, laS]
   refine wpAnyH_ready (rs := [5]) (by kernel_rfl) (by simp) ?_
   refine AllReadyH.cons rfl (fun K hK => ?_) AllReadyH.nil
   go_simp
   refine hK.out _ _ trivial (fun _ => ?_)
   clear hK K
   try simp only [Act.put, laS]
   refine wpAnyH_ready (rs := [6]) (by kernel_rfl) (by simp) ?_
   refine AllReadyH.cons rfl (fun K hK => ?_) AllReadyH.nil
   go_simp
   refine hK.out _ _ trivial (fun _ => ?_)
   clear hK K
   try simp only [Act.put, laS]
   refine wpAnyH_ready (rs := [7]) (by kernel_rfl) (by simp) ?_
   refine AllReadyH.cons rfl (fun K hK => ?_) AllReadyH.nil
   rw [if_pos (by kernel_rfl)]
   refine wp_append_lies (P := Tryz.prog) _ _ _ 31 rfl B 37 i0 (.agg #[.int .i64 0, .int .u64 0, .int .u64 0, .int .u64 0, .int .u64 0, .int .i64 0, .int .i64 0, .int .i64 0, .int .i64 0, .int .i64 0]) 10 80 Tryz.underlying31 hi hz0 hz1 hz2 rfl (by decide) _ r.l.length _ rfl HOA.out ⟨w.heap.size + 1, 0, none⟩ 1 1 x.cells.toList rfl rfl HCE.out (cells_one x) (by decide) (by unfold maxLen; omega) (by omega) HSA.out _ rfl ?_
   intro g cap3 w3 hown3 hgrow3 hat3 hlt3
   replace hgrow3 : (((w.alloc (.cells #[.int .i64 x.kind, .int .u64 x.w0, .int .u64 x.w1, .int .u64 x.w2, .int .u64 x.w3, .int .i64 x.a, .int .i64 x.b, .int .i64 x.mn, .int .i64 x.mx, .int .i64 x.n] 37)).alloc (.cells #[.int .i64 x.kind, .int .u64 x.w0, .int .u64 x.w1, .int .u64 x.w2, .int .u64 x.w3, .int .i64 x.a, .int .i64 x.b, .int .i64 x.mn, .int .i64 x.mx, .int .i64 x.n] 37)).drew).grownBy w3 (Value.slice o r.l.length cap).ownBlock := hgrow3
   replace hat3 : (Value.slice o r.l.length cap).ownBlock = some g ∨ g = (((w.alloc (.cells #[.int .i64 x.kind, .int .u64 x.w0, .int .u64 x.w1, .int .u64 x.w2, .int .u64 x.w3, .int .i64 x.a, .int .i64 x.b, .int .i64 x.mn, .int .i64 x.mx, .int .i64 x.n] 37)).alloc (.cells #[.int .i64 x.kind, .int .u64 x.w0, .int .u64 x.w1, .int .u64 x.w2, .int .u64 x.w3, .int .i64 x.a, .int .i64 x.b, .int .i64 x.mn, .int .i64 x.mx, .int .i64 x.n] 37)).drew).heap.size := hat3
   have hsA : (((w.alloc (.cells #[.int .i64 x.kind, .int .u64 x.w0, .int .u64 x.w1, .int .u64 x.w2, .int .u64 x.w3, .int .i64 x.a, .int .i64 x.b, .int .i64 x.mn, .int .i64 x.mx, .int .i64 x.n] 37)).alloc (.cells #[.int .i64 x.kind, .int .u64 x.w0, .int .u64 x.w1, .int .u64 x.w2, .int .u64 x.w3, .int .i64 x.a, .int .i64 x.b, .int .i64 x.mn, .int .i64 x.mx, .int .i64 x.n] 37)).drew).heap.size = w.heap.size + 1 + 1 := by show ((w.alloc (.cells #[.int .i64 x.kind, .int .u64 x.w0, .int .u64 x.w1, .int .u64 x.w2, .int .u64 x.w3, .int .i64 x.a, .int .i64 x.b, .int .i64 x.mn, .int .i64 x.mx, .int .i64 x.n] 37)).alloc (.cells #[.int .i64 x.kind, .int .u64 x.w0, .int .u64 x.w1, .int .u64 x.w2, .int .u64 x.w3, .int .i64 x.a, .int .i64 x.b, .int .i64 x.mn, .int .i64 x.mx, .int .i64 x.n] 37)).heap.size = _; rw [World.size_alloc, World.size_alloc]
   have hb3 : w3.heap[b]? = some (.cells (ecells s r (.slice o r.l.length cap) vL) 58 (0, 0)) := (hgrow3.block b (by rw [hsA]; omega) (fun e => HOB.out e.symm)).trans HBA.out
   have c3 : w3.cell? ⟨b, 2, none⟩ = some (.slice o r.l.length cap) := (cell_of _ _ _ _ hb3 2).trans rfl
   have f3 := frozen_of _ _ _ _ hb3 2
   have hgb : g ≠ b := by
    rcases hat3 with e | e
    ·intro q; exact HOB.out (by rw [e, q])
    ·rw [hsA] at e; omega
   have hfin := eput_fin x H.out hgrow3 hsA hb3 hown3 HKA.out hc
   have c4 : World.cell? (w3.setCell ⟨b, 2, none⟩ (.slice (some ⟨g, 0, none⟩) (r.l.length + 1) cap3)) ⟨b, 2, none⟩ = some (.slice (some ⟨g, 0, none⟩) (r.l.length + 1) cap3) := (hfin.1.cell 2).trans rfl
   have HFN := Lib.hid hfin
   clear hfin hown3 hgrow3 hat3 hb3
   refine hK.out _ _ trivial (fun _ => ?_)
   clear hK K
   try simp only [Act.put, laS]
   refine wpAnyH_take (i := 8) (v := ?_) rfl (by kernel_rfl) (by kernel_rfl) (by kernel_rfl) (fun _ _ _ h => h) (Or.inl ⟨by kernel_rfl, ?_⟩) (by trivial) ?_
   rotate_left
   ·(intro w hSw; (try dsimp only at hSw); go_simp); (try with_reducible rfl)
   try simp only [Act.put, laS]
   refine wpAnyH_take (i := 9) (v := ?_) rfl (by kernel_rfl) (by kernel_rfl) (by kernel_rfl) (fun _ _ _ h => h) (Or.inl ⟨by kernel_rfl, ?_⟩) (by trivial) ?_
   rotate_left
   ·(intro w hSw; (try dsimp only at hSw); go_simp); (try with_reducible rfl)
   try simp only [Act.put, laS]
   refine wpAnyH_ready (rs := [10]) (by kernel_rfl) (by simp) ?_
   refine AllReadyH.cons rfl (fun K hK => ?_) AllReadyH.nil
   go_simp
   refine hK.out _ _ trivial (fun _ => ?_)
   clear hK K
   try simp only [Act.put, laS]
   refine wpAnyH_done (by kernel_rfl) ?_ _
   have ew : IntKind.i64.wrap ((r.l.length : Int) + 1 - 1) = (r.l.length : Int) := by simp [IntKind.wrap, IntKind.signed, IntKind.bits]; omega
   have ew2 : IntKind.i64.wrap (r.l.length : Int) = (r.l.length : Int) := by simp [IntKind.wrap, IntKind.signed, IntKind.bits]; omega
   go_wp2
   go_ret
   refine ⟨?_, _, HFN.out.1, HFN.out.2⟩
   unfold ES.idx
   rw [eput_len x hc]
   simp
  ·go_simp
   refine hK.out _ _ trivial (fun _ => ?_)
   clear hK K
   try simp only [Act.put, laS]
   refine wpAnyH_ready (rs := [4, 6]) (by kernel_rfl) (by simp) ?_
   refine AllReadyH.cons rfl (fun K hK => ?_) (AllReadyH.cons rfl (fun K hK => ?_) AllReadyH.nil)
   ·go_simp
    refine hK.out _ _ trivial (fun _ => ?_)
    clear hK K
    try simp only [Act.put, laS]
    refine wpAnyH_ready (rs := [6]) (by kernel_rfl) (by simp) ?_
    refine AllReadyH.cons rfl (fun K hK => ?_) AllReadyH.nil
    go_simp
    refine hK.out _ _ trivial (fun _ => ?_)
    clear hK K
    try simp only [Act.put, laS]
    refine wpAnyH_ready (rs := [7]) (by kernel_rfl) (by simp) ?_
    refine AllReadyH.cons rfl (fun K hK => ?_) AllReadyH.nil
    rw [if_pos (by kernel_rfl)]
    refine wp_append_lies (P := Tryz.prog) _ _ _ 31 rfl B 37 i0 (.agg #[.int .i64 0, .int .u64 0, .int .u64 0, .int .u64 0, .int .u64 0, .int .i64 0, .int .i64 0, .int .i64 0, .int .i64 0, .int .i64 0]) 10 80 Tryz.underlying31 hi hz0 hz1 hz2 rfl (by decide) _ r.l.length _ rfl HOA.out ⟨w.heap.size + 1, 0, none⟩ 1 1 x.cells.toList rfl rfl HCE.out (cells_one x) (by decide) (by unfold maxLen; omega) (by omega) HSA.out _ rfl ?_
    intro g cap3 w3 hown3 hgrow3 hat3 hlt3
    replace hgrow3 : (((w.alloc (.cells #[.int .i64 x.kind, .int .u64 x.w0, .int .u64 x.w1, .int .u64 x.w2, .int .u64 x.w3, .int .i64 x.a, .int .i64 x.b, .int .i64 x.mn, .int .i64 x.mx, .int .i64 x.n] 37)).alloc (.cells #[.int .i64 x.kind, .int .u64 x.w0, .int .u64 x.w1, .int .u64 x.w2, .int .u64 x.w3, .int .i64 x.a, .int .i64 x.b, .int .i64 x.mn, .int .i64 x.mx, .int .i64 x.n] 37)).drew).grownBy w3 (Value.slice o r.l.length cap).ownBlock := hgrow3
    replace hat3 : (Value.slice o r.l.length cap).ownBlock = some g ∨ g = (((w.alloc (.cells #[.int .i64 x.kind, .int .u64 x.w0, .int .u64 x.w1, .int .u64 x.w2, .int .u64 x.w3, .int .i64 x.a, .int .i64 x.b, .int .i64 x.mn, .int .i64 x.mx, .int .i64 x.n] 37)).alloc (.cells #[.int .i64 x.kind, .int .u64 x.w0, .int .u64 x.w1, .int .u64 x.w2, .int .u64 x.w3, .int .i64 x.a, .int .i64 x.b, .int .i64 x.mn, .int .i64 x.mx, .int .i64 x.n] 37)).drew).heap.size := hat3
    have hsA : (((w.alloc (.cells #[.int .i64 x.kind, .int .u64 x.w0, .int .u64 x.w1, .int .u64 x.w2, .int .u64 x.w3, .int .i64 x.a, .int .i64 x.b, .int .i64 x.mn, .int .i64 x.mx, .int .i64 x.n] 37)).alloc (.cells #[.int .i64 x.kind, .int .u64 x.w0, .int .u64 x.w1, .int .u64 x.w2, .int .u64 x.w3, .int .i64 x.a, .int .i64 x.b, .int .i64 x.mn, .int .i64 x.mx, .int .i64 x.n] 37)).drew).heap.size = w.heap.size + 1 + 1 := by show ((w.alloc (.cells #[.int .i64 x.kind, .int .u64 x.w0, .int .u64 x.w1, .int .u64 x.w2, .int .u64 x.w3, .int .i64 x.a, .int .i64 x.b, .int .i64 x.mn, .int .i64 x.mx, .int .i64 x.n] 37)).alloc (.cells #[.int .i64 x.kind, .int .u64 x.w0, .int .u64 x.w1, .int .u64 x.w2, .int .u64 x.w3, .int .i64 x.a, .int .i64 x.b, .int .i64 x.mn, .int .i64 x.mx, .int .i64 x.n] 37)).heap.size = _; rw [World.size_alloc, World.size_alloc]
    have hb3 : w3.heap[b]? = some (.cells (ecells s r (.slice o r.l.length cap) vL) 58 (0, 0)) := (hgrow3.block b (by rw [hsA]; omega) (fun e => HOB.out e.symm)).trans HBA.out
    have c3 : w3.cell? ⟨b, 2, none⟩ = some (.slice o r.l.length cap) := (cell_of _ _ _ _ hb3 2).trans rfl
    have f3 := frozen_of _ _ _ _ hb3 2
    have hgb : g ≠ b := by
     rcases hat3 with e | e
     ·intro q; exact HOB.out (by rw [e, q])
     ·rw [hsA] at e; omega
    have hfin := eput_fin x H.out hgrow3 hsA hb3 hown3 HKA.out hc
    have c4 : World.cell? (w3.setCell ⟨b, 2, none⟩ (.slice (some ⟨g, 0, none⟩) (r.l.length + 1) cap3)) ⟨b, 2, none⟩ = some (.slice (some ⟨g, 0, none⟩) (r.l.length + 1) cap3) := (hfin.1.cell 2).trans rfl
    have HFN := Lib.hid hfin
    clear hfin hown3 hgrow3 hat3 hb3
    refine hK.out _ _ trivial (fun _ => ?_)
    clear hK K
    try simp only [Act.put, laS]
    refine wpAnyH_take (i := 8) (v := ?_) rfl (by kernel_rfl) (by kernel_rfl) (by kernel_rfl) (fun _ _ _ h => h) (Or.inl ⟨by kernel_rfl, ?_⟩) (by trivial) ?_
    rotate_left
    ·(intro w hSw; (try dsimp only at hSw); go_simp); (try with_reducible rfl)
    try simp only [Act.put, laS]
    refine wpAnyH_take (i := 9) (v := ?_) rfl (by kernel_rfl) (by kernel_rfl) (by kernel_rfl) (fun _ _ _ h => h) (Or.inl ⟨by kernel_rfl, ?_⟩) (by trivial) ?_
    rotate_left
    ·(intro w hSw; (try dsimp only at hSw); go_simp); (try with_reducible rfl)
    try simp only [Act.put, laS]
    refine wpAnyH_ready (rs := [10]) (by kernel_rfl) (by simp) ?_
    refine AllReadyH.cons rfl (fun K hK => ?_) AllReadyH.nil
    go_simp
    refine hK.out _ _ trivial (fun _ => ?_)
    clear hK K
    try simp only [Act.put, laS]
    refine wpAnyH_done (by kernel_rfl) ?_ _
    have ew : IntKind.i64.wrap ((r.l.length : Int) + 1 - 1) = (r.l.length : Int) := by simp [IntKind.wrap, IntKind.signed, IntKind.bits]; omega
    have ew2 : IntKind.i64.wrap (r.l.length : Int) = (r.l.length : Int) := by simp [IntKind.wrap, IntKind.signed, IntKind.bits]; omega
    go_wp2
    go_ret
    refine ⟨?_, _, HFN.out.1, HFN.out.2⟩
    unfold ES.idx
    rw [eput_len x hc]
    simp
   ·go_simp
    refine hK.out _ _ trivial (fun _ => ?_)
    clear hK K
    try simp only [Act.put, laS]
    refine wpAnyH_ready (rs := [4]) (by kernel_rfl) (by simp) ?_
    refine AllReadyH.cons rfl (fun K hK => ?_) AllReadyH.nil
    go_simp
    refine hK.out _ _ trivial (fun _ => ?_)
    clear hK K
    try simp only [Act.put, laS]
    refine wpAnyH_ready (rs := [7]) (by kernel_rfl) (by simp) ?_
    refine AllReadyH.cons rfl (fun K hK => ?_) AllReadyH.nil
    rw [if_pos (by kernel_rfl)]
    refine wp_append_lies (P := Tryz.prog) _ _ _ 31 rfl B 37 i0 (.agg #[.int .i64 0, .int .u64 0, .int .u64 0, .int .u64 0, .int .u64 0, .int .i64 0, .int .i64 0, .int .i64 0, .int .i64 0, .int .i64 0]) 10 80 Tryz.underlying31 hi hz0 hz1 hz2 rfl (by decide) _ r.l.length _ rfl HOA.out ⟨w.heap.size + 1, 0, none⟩ 1 1 x.cells.toList rfl rfl HCE.out (cells_one x) (by decide) (by unfold maxLen; omega) (by omega) HSA.out _ rfl ?_
    intro g cap3 w3 hown3 hgrow3 hat3 hlt3
    replace hgrow3 : (((w.alloc (.cells #[.int .i64 x.kind, .int .u64 x.w0, .int .u64 x.w1, .int .u64 x.w2, .int .u64 x.w3, .int .i64 x.a, .int .i64 x.b, .int .i64 x.mn, .int .i64 x.mx, .int .i64 x.n] 37)).alloc (.cells #[.int .i64 x.kind, .int .u64 x.w0, .int .u64 x.w1, .int .u64 x.w2, .int .u64 x.w3, .int .i64 x.a, .int .i64 x.b, .int .i64 x.mn, .int .i64 x.mx, .int .i64 x.n] 37)).drew).grownBy w3 (Value.slice o r.l.length cap).ownBlock := hgrow3
    replace hat3 : (Value.slice o r.l.length cap).ownBlock = some g ∨ g = (((w.alloc (.cells #[.int .i64 x.kind, .int .u64 x.w0, .int .u64 x.w1, .int .u64 x.w2, .int .u64 x.w3, .int .i64 x.a, .int .i64 x.b, .int .i64 x.mn, .int .i64 x.mx, .int .i64 x.n] 37)).alloc (.cells #[.int .i64 x.kind, .int .u64 x.w0, .int .u64 x.w1, .int .u64 x.w2, .int .u64 x.w3, .int .i64 x.a, .int .i64 x.b, .int .i64 x.mn, .int .i64 x.mx, .int .i64 x.n] 37)).drew).heap.size := hat3
    have hsA : (((w.alloc (.cells #[.int .i64 x.kind, .int .u64 x.w0, .int .u64 x.w1, .int .u64 x.w2, .int .u64 x.w3, .int .i64 x.a, .int .i64 x.b, .int .i64 x.mn, .int .i64 x.mx, .int .i64 x.n] 37)).alloc (.cells #[.int .i64 x.kind, .int .u64 x.w0, .int .u64 x.w1, .int .u64 x.w2, .int .u64 x.w3, .int .i64 x.a, .int .i64 x.b, .int .i64 x.mn, .int .i64 x.mx, .int .i64 x.n] 37)).drew).heap.size = w.heap.size + 1 + 1 := by show ((w.alloc (.cells #[.int .i64 x.kind, .int .u64 x.w0, .int .u64 x.w1, .int .u64 x.w2, .int .u64 x.w3, .int .i64 x.a, .int .i64 x.b, .int .i64 x.mn, .int .i64 x.mx, .int .i64 x.n] 37)).alloc (.cells #[.int .i64 x.kind, .int .u64 x.w0, .int .u64 x.w1, .int .u64 x.w2, .int .u64 x.w3, .int .i64 x.a, .int .i64 x.b, .int .i64 x.mn, .int .i64 x.mx, .int .i64 x.n] 37)).heap.size = _; rw [World.size_alloc, World.size_alloc]
    have hb3 : w3.heap[b]? = some (.cells (ecells s r (.slice o r.l.length cap) vL) 58 (0, 0)) := (hgrow3.block b (by rw [hsA]; omega) (fun e => HOB.out e.symm)).trans HBA.out
    have c3 : w3.cell? ⟨b, 2, none⟩ = some (.slice o r.l.length cap) := (cell_of _ _ _ _ hb3 2).trans rfl
    have f3 := frozen_of _ _ _ _ hb3 2
    have hgb : g ≠ b := by
     rcases hat3 with e | e
     ·intro q; exact HOB.out (by rw [e, q])
     ·rw [hsA] at e; omega
    have hfin := eput_fin x H.out hgrow3 hsA hb3 hown3 HKA.out hc
    have c4 : World.cell? (w3.setCell ⟨b, 2, none⟩ (.slice (some ⟨g, 0, none⟩) (r.l.length + 1) cap3)) ⟨b, 2, none⟩ = some (.slice (some ⟨g, 0, none⟩) (r.l.length + 1) cap3) := (hfin.1.cell 2).trans rfl
    have HFN := Lib.hid hfin
    clear hfin hown3 hgrow3 hat3 hb3
    refine hK.out _ _ trivial (fun _ => ?_)
    clear hK K
    try simp only [Act.put, laS]
    refine wpAnyH_take (i := 8) (v := ?_) rfl (by kernel_rfl) (by kernel_rfl) (by kernel_rfl) (fun _ _ _ h => h) (Or.inl ⟨by kernel_rfl, ?_⟩) (by trivial) ?_
    rotate_left
    ·(intro w hSw; (try dsimp only at hSw); go_simp); (try with_reducible rfl)
    try simp only [Act.put, laS]
    refine wpAnyH_take (i := 9) (v := ?_) rfl (by kernel_rfl) (by kernel_rfl) (by kernel_rfl) (fun _ _ _ h => h) (Or.inl ⟨by kernel_rfl, ?_⟩) (by trivial) ?_
    rotate_left
    ·(intro w hSw; (try dsimp only at hSw); go_simp); (try with_reducible rfl)
    try simp only [Act.put, laS]
    refine wpAnyH_ready (rs := [10]) (by kernel_rfl) (by simp) ?_
    refine AllReadyH.cons rfl (fun K hK => ?_) AllReadyH.nil
    go_simp
    refine hK.out _ _ trivial (fun _ => ?_)
    clear hK K
    try simp only [Act.put, laS]
    refine wpAnyH_done (by kernel_rfl) ?_ _
    have ew : IntKind.i64.wrap ((r.l.length : Int) + 1 - 1) = (r.l.length : Int) := by simp [IntKind.wrap, IntKind.signed, IntKind.bits]; omega
    have ew2 : IntKind.i64.wrap (r.l.length : Int) = (r.l.length : Int) := by simp [IntKind.wrap, IntKind.signed, IntKind.bits]; omega
    go_wp2
    go_ret
    refine ⟨?_, _, HFN.out.1, HFN.out.2⟩
    unfold ES.idx
    rw [eput_len x hc]
    simp
 ·have g1 : ((r.l.length : Int) ≤ 120) = False := by simp; omega
  have ew : IntKind.i64.wrap ((r.l.length : Int) - 1) = (r.l.length : Int) - 1 := by simp [IntKind.wrap, IntKind.signed, IntKind.bits]; omega
  have HB := Lib.hid h1
  have HK := Lib.hid (EK.mk (B := B) (b := b) (hbx.mono (show B ≤ w.heap.size by omega)) (KeepT.below hbx))
  clear h1 h hbx
  go_enter Tryz.func102, Tryz.ntmps102
  go_wp2
  go_ret
  rw [eput_full x hc]
  exact ⟨rfl, _, HB.out, HK.out⟩
end
end Go.Proofs.YtdjcgjkbecncaaaGreatDoor
namespace Go.Proofs.YtdjcgjkbecncaaaGreatDoor
open Go.RowKit
section
variable {B b mb : Nat} {mo : Obj} {s : List UInt8} {r : ES} {vl vL : Value} {vo : List (Value × Value)} {vt vt' : Value × Value} {w w' : World} {t' : EL}
theorem vals_snoc (vo : List (Value × Value)) (vt : Value × Value) : vals (vo ++ [vt]) = vals vo ++ [vt.1, vt.2] := by simp [vals]
theorem ap_parts (h : (vals (vo ++ [vt])).Pairwise apart) : (vals vo).Pairwise apart ∧ (∀ a ∈ vals vo, apart a vt.1 ∧ apart a vt.2) ∧ apart vt.1 vt.2 := by
 rw [vals_snoc, List.pairwise_append] at h
 obtain ⟨h1, h2, h3⟩ := h
 refine ⟨h1, fun a ha => ⟨h3 a ha _ (by simp), h3 a ha _ (by simp)⟩, ?_⟩
 simpa using h2
theorem ap_mk (h1 : (vals vo).Pairwise apart) (h2 : ∀ a ∈ vals vo, apart a vt.1 ∧ apart a vt.2) (h3 : apart vt.1 vt.2) : (vals (vo ++ [vt])).Pairwise apart := by
 rw [vals_snoc, List.pairwise_append]
 refine ⟨h1, by simpa using h3, fun a ha c hc => ?_⟩
 simp only [List.mem_cons, List.not_mem_nil, or_false] at hc
 rcases hc with rfl | rfl
 ·exact (h2 a ha).1
 ·exact (h2 a ha).2
theorem lvs_own : ∀ {l : List EL} {vs : List (Value × Value)}, LVs B w l vs → ∀ a ∈ vals vs, ∃ n xs, w.ownsRow B 3 1 a n xs
 | _, _, .nil, a, h => by simp [vals] at h
 | _, _, .cons (v := v) h r, a, ha => by
  simp only [vals, List.flatMap_cons, List.mem_append, List.mem_cons, List.not_mem_nil, or_false] at ha
  rcases ha with (rfl | rfl) | ha
  ·exact ⟨_, _, h.a⟩
  ·exact ⟨_, _, h.b⟩
  ·exact lvs_own r a ha
theorem lvs_keep2 (k : ∀ v ∈ vals vo, ∀ n xs, w.ownsRow B 3 1 v n xs → w'.ownsRow B 3 1 v n xs) : ∀ {l : List EL}, LVs B w l vo → LVs B w' l vo := by
 intro l h
 induction h with
 | nil => exact .nil
 | cons h _ ih => exact .cons ⟨k _ (by simp [vals]) _ _ h.a, k _ (by simp [vals]) _ _ h.b⟩ (ih (fun v hv => k v (by simp only [vals, List.flatMap_cons, List.mem_append]; exact .inr hv)))
theorem EM.lev (h : EM B b mb mo s r vl vL vo vt w) {gL : Nat} {vX : Value} (hX : vX = vt.1 ∨ vX = vt.2) (hL : vL.ownBlock = some gL) (hk : ∀ k o, w.heap[k]? = some o → k ≠ gL → vX.ownBlock ≠ some k → w'.heap[k]? = some o)
  (hw : w'.ownsRow B 55 4 vL (r.lo ++ [t']).length (lrow4 (r.lo ++ [t']) (vo ++ [vt']))) (hv : LV B w' t' vt') (ha : (vals (vo ++ [vt'])).Pairwise apart) :
  EM B b mb mo s { r with top := t' } vl vL vo vt' w' := by
 obtain ⟨hls, htl⟩ := lvs_snoc h.P.ls
 obtain ⟨a1, a2, a3⟩ := ap_parts h.P.ap
 have oX : ∃ n xs, w.ownsRow B 3 1 vX n xs := by
  rcases hX with rfl | rfl
  ·exact ⟨_, _, htl.a⟩
  ·exact ⟨_, _, htl.b⟩
 obtain ⟨nX, xX, oX⟩ := oX
 obtain ⟨cL, hcL⟩ := own_block h.P.lw hL
 have hbX : ∀ k (o : Obj), w.heap[k]? = some o → (∀ c fz, o ≠ Obj.cells c 3 fz) → vX.ownBlock ≠ some k := fun k o hk ho e => by
  obtain ⟨c, hc⟩ := own_block oX e
  rw [hk] at hc; cases hc; exact ho _ _ rfl
 have hbL : ∀ k (o : Obj), w.heap[k]? = some o → (∀ c fz, o ≠ Obj.cells c 55 fz) → k ≠ gL := fun k o hk1 ho e => by
  rw [← e, hk1] at hcL; cases hcL; exact ho _ _ rfl
 have keep : ∀ k (o : Obj), w.heap[k]? = some o → (∀ c fz, o ≠ Obj.cells c 3 fz) → (∀ c fz, o ≠ Obj.cells c 55 fz) → w'.heap[k]? = some o := fun k o hk1 h1 h2 => hk k o hk1 (hbL k o hk1 h2) (hbX k o hk1 h1)
 refine ⟨keep b _ h.heap (fun c fz e => by cases e) (fun c fz e => by cases e), h.ge, keep mb _ h.map (fun c fz e => by have := h.nc; rw [e] at this; cases this) (fun c fz e => by have := h.nc; rw [e] at this; cases this), h.nc, ⟨?_, hw, lvs_mk hv ?_, ha, h.P.nodes⟩, h.len, h.small, h.gs⟩
 ·refine ⟨h.P.nl.1, ?_⟩
  rcases h.P.nl.2 with hn | ⟨g, cap, cur, e, h1, hg, rest⟩
  ·exact .inl hn
  ·exact .inr ⟨g, cap, cur, e, h1, keep g _ hg (fun c fz e => by cases e) (fun c fz e => by cases e), rest⟩
 ·refine lvs_keep2 (fun v hv n xs ho => ⟨ho.1, ?_⟩) hls
  rcases ho.2 with hn | ⟨g, cap, cur, e, h1, hg, rest⟩
  ·exact .inl hn
  ·refine .inr ⟨g, cap, cur, e, h1, hk g _ hg (hbL g _ hg (fun c fz e => by cases e)) (fun e2 => ?_), rest⟩
   have hap : apart v vX := by rcases hX with rfl | rfl; exact (a2 v hv).1; exact (a2 v hv).2
   have ev : v.ownBlock = some g := by rw [e]; rfl
   rcases hap with e3 | e3
   ·rw [ev] at e3; cases e3
   ·exact e3 (by rw [ev, e2])
theorem EM.items (h : EM B b mb mo s r vl vL vo vt w) {gL cap : Nat} (hL : vL = .slice (some ⟨gL, 0, none⟩) (r.lo.length + 1) cap) {WA w3 : World} {v' : Value} {i : Int} (hwa : Below w.heap.size w WA) (hgrow : WA.grownBy w3 vt.2.ownBlock)
  (hown : w3.ownsRow B 3 1 v' (r.top.items.length + 1) (ilist r.top.items ++ [.int .i64 i])) (hat : v'.ownBlock = vt.2.ownBlock ∨ ∃ k, v'.ownBlock = some k ∧ w.heap.size ≤ k) :
  EM B b mb mo s { r with top := { r.top with items := r.top.items ++ [i] } } vl vL vo (vt.1, v') (w3.setCell ⟨gL, r.lo.length * 4 + 3, none⟩ v') ∧ Below B w (w3.setCell ⟨gL, r.lo.length * 4 + 3, none⟩ v') := by
 obtain ⟨hls, htl⟩ := lvs_snoc h.P.ls
 obtain ⟨a1, a2, a3⟩ := ap_parts h.P.ap
 have hll := lvs_len hls
 have hvo := lvs_own hls
 have hw := h.P.lw
 have hwl := hwa.size
 obtain ⟨gL', cap', e, hgB, _, _, hgl, _⟩ := h.P.top
 rw [hL] at e
 cases e
 have hLb : vL.ownBlock = some gL := by rw [hL]; rfl
 have e1 : (r.lo ++ [r.top]).length = r.lo.length + 1 := by simp
 -- the levels' row, behind the growth
 have hw3 : w3.ownsRow B 55 4 vL (r.lo.length + 1) (lrow4 (r.lo ++ [r.top]) (vo ++ [vt])) := by
  rw [e1] at hw
  have hwA : WA.ownsRow B 55 4 vL (r.lo.length + 1) (lrow4 (r.lo ++ [r.top]) (vo ++ [vt])) := own_keepT (b := w.heap.size) hw (KeepT.below (Ts := []) hwa) (by simp) (by rw [hLb]; intro e; have := Option.some.inj e; omega)
  refine hwA.kept hgrow (own_ty (U := 3) hw htl.b (by decide))
 rw [hL] at hw3
 have st := hw3.stored (r.lo.length * 4 + 3) v'
 have hset : (lrow4 (r.lo ++ [r.top]) (vo ++ [vt])).set (r.lo.length * 4 + 3) v' = lrow4 (r.lo ++ [{ r.top with items := r.top.items ++ [i] }]) (vo ++ [(vt.1, v')]) := by
  rw [lrow4_app _ _ _ _ hll, lrow4_app _ _ _ _ hll, List.set_append_right _ _ (by rw [lrow4_len _ _ hll]; omega), lrow4_len _ _ hll]
  rw [show r.lo.length * 4 + 3 - r.lo.length * 4 = 3 by omega]
  rfl
 rw [hset] at st
 have gne : ∀ k, v'.ownBlock = some k → k ≠ gL := fun k hk e => by
  subst e
  exact own_blk (U := 55) hown (own_block hw3 rfl).choose_spec (by decide) hk
 refine ⟨EM.lev h (gL := gL) (vX := vt.2) (.inr rfl) hLb (fun k o hk h1 h2 => ?_) ?_ ⟨?_, ?_⟩ (ap_mk a1 (fun a ha => ⟨(a2 a ha).1, ?_⟩) ?_), ?_⟩
 ·have hkl := (Array.getElem?_eq_some_iff.1 hk).1
  rw [Below.heap_setCell _ _ _ _ (fun e => h1 e), hgrow.block k (by omega) (fun e => h2 e.symm), hwa.block k hkl]
  exact hk
 ·rw [show (r.lo ++ [({ r.top with items := r.top.items ++ [i] } : EL)]).length = r.lo.length + 1 by simp, hL]
  exact st.1
 ·have ha : w3.ownsRow B 3 1 vt.1 r.top.rows.length (ilist r.top.rows) := by
   have hA : WA.ownsRow B 3 1 vt.1 r.top.rows.length (ilist r.top.rows) := own_keepT (b := w.heap.size) htl.a (KeepT.below (Ts := []) hwa) (by simp) (fun e => by have := (htl.a.lt _ e).2; omega)
   exact hA.kept hgrow a3
  exact ha.kept st.2 (.inr (fun e => own_blk (U := 55) ha (own_block hw3 rfl).choose_spec (by decide) e))
 ·have hb2 : w3.ownsRow B 3 1 v' (r.top.items ++ [i]).length (ilist (r.top.items ++ [i])) := by
   rw [List.length_append]; simpa [ilist] using hown
  exact hb2.kept st.2 (.inr (fun e => gne gL e rfl))
 ·rcases hat with e | ⟨k, e, hk⟩
  ·have := (a2 a ha).2
   unfold apart at this ⊢
   rw [e]; exact this
  ·obtain ⟨n, xs, ho⟩ := hvo a ha
   unfold apart
   cases ea : a.ownBlock with
   | none => exact .inl rfl
   | some j => refine .inr (fun e2 => ?_); rw [e] at e2; have := Option.some.inj e2; have := (ho.lt j ea).2; omega
 ·rcases hat with e | ⟨k, e, hk⟩
  ·unfold apart at a3 ⊢
   rw [e]; exact a3
  ·unfold apart
   cases ea : vt.1.ownBlock with
   | none => exact .inl rfl
   | some j => refine .inr (fun e2 => ?_); rw [e] at e2; have := Option.some.inj e2; have := (htl.a.lt j ea).2; omega
 ·have hge := h.ge
  have hlt := h.lt
  exact ((hwa.mono (by omega)).grown hgrow (by omega) (fun k hk => (htl.b.lt k hk).1)).setCell (p := ⟨gL, r.lo.length * 4 + 3, none⟩) hgB _
end
end Go.Proofs.YtdjcgjkbecncaaaGreatDoor
