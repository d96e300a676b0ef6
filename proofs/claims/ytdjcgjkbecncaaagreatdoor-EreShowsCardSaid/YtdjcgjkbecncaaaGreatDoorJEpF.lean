/- ere: the innermost level's place; an item. -/
import Derived.Test.YtdjcgjkbecncaaaGreatDoorJEpD
import Derived.OrdersHeld
import Derived.Deep.Upon
import Derived.Deep.DeepCutAuto
import Derived.Maps.AppendAt
import Derived.Test.YtdjcgjkbecncaaaGreatDoorJBrJ
import Derived.Test.YtdjcgjkbecncaaaGreatDoorJBrIe
import Derived.StillTailTactics
set_option linter.unusedVariables false
set_option linter.unusedSimpArgs false
set_option maxRecDepth 100000
set_option maxHeartbeats 40000000
namespace Go.Proofs.YtdjcgjkbecncaaaGreatDoor
open Go.RowKit
section
variable {B b mb : Nat} {mo : Obj} {s : List UInt8} {r : ES} {vl vL : Value} {vo : List (Value × Value)} {vt : Value × Value} {w : World}
theorem etop_c (w : World) (h : EM B b mb mo s r vl vL vo vt w) {gL cap : Nat} (hL : vL = .slice (some ⟨gL, 0, none⟩) (r.lo.length + 1) cap) :
  Calls Tryz.prog 71 #[.pointer (some ⟨b, 0, none⟩)] w fun e w' => e = .returned (.pointer (some ⟨gL, r.lo.length * 4, none⟩)) ∧ ∃ n, w' = w.drewN n := by
 obtain ⟨g', cap', e, _, _, _, _, hc⟩ := h.P.top
 rw [hL] at e
 cases e
 have hw := h.P.lw
 rw [show (r.lo ++ [r.top]).length = r.lo.length + 1 by simp] at hw
 have hle : r.lo.length + 1 ≤ cap := by
  rcases hw.2 with ⟨_, h0⟩ | ⟨g, c2, cur, e, _, _, hn, _⟩
  ·omega
  ·rw [hL] at e; cases e; exact hn
 unfold maxLen at hc
 have d3 : w.cell? ⟨b, 3, none⟩ = some (.slice (some ⟨gL, 0, none⟩) (r.lo.length + 1) cap) := by rw [← hL]; exact (h.cell 3).trans rfl
 obtain ⟨n, hn⟩ : ∃ n, n = r.lo.length := ⟨_, rfl⟩
 rw [← hn] at hle d3 ⊢
 have ew : IntKind.i64.wrap (((n + 1 : Nat) : Int) - 1) = (n : Int) := by simp [IntKind.wrap, IntKind.signed, IntKind.bits]; omega
 have ew2 : IntKind.i64.wrap ((n : Int) + 1 - 1) = (n : Int) := by simp [IntKind.wrap, IntKind.signed, IntKind.bits]; omega
 have hlt : (n : Int) < n + 1 := by omega
 clear hn hw hL h
 go_enter Tryz.func71, Tryz.ntmps71
 go_wp2
 go_quiet (fail)
 rename_i nq
 go_wp2
 go_ret
 exact ⟨by simp, nq, rfl⟩
theorem EM.at2 (h : EM B b mb mo s r vl vL vo vt w) (p : Nat) (a : Bool) (hp : p ≤ s.length) : EM B b mb mo s { r with p := p, ia := a } vl vL vo vt ((w.setCell ⟨b, 1, none⟩ (.int .i64 (p : Int))).setCell ⟨b, 5, none⟩ (.bool a)) := by
 have h1 := heap_setCell_same w b 1 _ _ (.int .i64 (p : Int)) h.heap
 have h2 := heap_setCell_same _ b 5 _ _ (.bool a) h1
 refine EM.set h (r' := { r with p := p, ia := a }) ?_ (fun k hk => ?_) rfl rfl rfl hp h.gs
 ·rw [h2]; rfl
 ·rw [Below.heap_setCell _ _ _ _ (fun e => hk e), Below.heap_setCell _ _ _ _ (fun e => hk e)]
theorem eitem_c (x : Nd) (n : Nat) (a : Bool) (w : World) (h : EM B b mb mo s r vl vL vo vt w) (hp : r.p + n ≤ s.length) (hi : r.top.items.length ≤ 200000) :
  Calls Tryz.prog 92 #[.pointer (some ⟨b, 0, none⟩), .agg #[.int .i64 x.kind, .int .u64 x.w0, .int .u64 x.w1, .int .u64 x.w2, .int .u64 x.w3, .int .i64 x.a, .int .i64 x.b, .int .i64 x.mn, .int .i64 x.mx, .int .i64 x.n], .int .i64 n, .bool a] w
   fun e w' => e = .returned (.int .i64 0) ∧ (∃ vl' vt', EM B b mb mo s (r.item x n a) vl' vL vo vt' w') ∧ Below B w w' := by
 obtain ⟨i0, hi0, hz0, hz1, hz2⟩ := info_parts infoI
 obtain ⟨gL, cap, hL, hgB, _, _, hgl, _⟩ := h.P.top
 have hlt := h.lt
 have hge := h.ge
 have hlen := h.len
 have hsm := h.small
 obtain ⟨wx, hwx⟩ : ∃ wx, wx = w.alloc (.cells #[.int .i64 x.kind, .int .u64 x.w0, .int .u64 x.w1, .int .u64 x.w2, .int .u64 x.w3, .int .i64 x.a, .int .i64 x.b, .int .i64 x.mn, .int .i64 x.mx, .int .i64 x.n] 37) := ⟨_, rfl⟩
 have hbx : Below w.heap.size w wx := by rw [hwx]; exact (Below.refl _ w).alloc (Nat.le_refl _) _
 have hE1 := h.below hbx
 have hE3 := EM.at2 hE1 (r.p + n) a hp
 obtain ⟨w3, hw3⟩ : ∃ w3, w3 = (wx.setCell ⟨b, 1, none⟩ (.int .i64 ((r.p + n : Nat) : Int))).setCell ⟨b, 5, none⟩ (.bool a) := ⟨_, rfl⟩
 rw [← hw3] at hE3
 have hbB : Below B w w3 := by rw [hw3]; exact ((hbx.mono (by omega)).setCell (p := ⟨b, 1, none⟩) hge _).setCell (p := ⟨b, 5, none⟩) hge _
 have hxN : wx.heap[w.heap.size]? = some (.cells #[.int .i64 x.kind, .int .u64 x.w0, .int .u64 x.w1, .int .u64 x.w2, .int .u64 x.w3, .int .i64 x.a, .int .i64 x.b, .int .i64 x.mn, .int .i64 x.mx, .int .i64 x.n] 37 (0, 0)) := by rw [hwx]; exact heap_new w _
 have hx3 : w3.heap[w.heap.size]? = some (.cells #[.int .i64 x.kind, .int .u64 x.w0, .int .u64 x.w1, .int .u64 x.w2, .int .u64 x.w3, .int .i64 x.a, .int .i64 x.b, .int .i64 x.mn, .int .i64 x.mx, .int .i64 x.n] 37 (0, 0)) := by
  rw [hw3, Below.heap_setCell _ _ _ _ (by show w.heap.size ≠ b; omega), Below.heap_setCell _ _ _ _ (by show w.heap.size ≠ b; omega)]; exact hxN
 have d1 : wx.cell? ⟨b, 1, none⟩ = some (.int .i64 (r.p : Int)) := (hE1.cell 1).trans rfl
 have f1 := hE1.fz 1
 have d5 : wx.cell? ⟨b, 5, none⟩ = some (.bool r.ia) := (hE1.cell 5).trans rfl
 have f5 := hE1.fz 5
 have ew : IntKind.i64.wrap ((r.p : Int) + (n : Int)) = (r.p : Int) + (n : Int) := by simp [IntKind.wrap, IntKind.signed, IntKind.bits]; omega
 have HTOP := Lib.hid (etop_c w3 hE3 hL)
 have HE3 := Lib.hid hE3
 have HX3 := Lib.hid hx3
 have HW3 := Lib.hid hw3
 have HBB := Lib.hid hbB
 have HWX := Lib.hid hwx
 have hcast : ((r.p + n : Nat) : Int) = (r.p : Int) + (n : Int) := by omega
 rw [hcast] at hw3
 go_enter Tryz.func92, Tryz.ntmps92
 go_upto_region 1 with fail
 rw [← hwx]
 clear hE1 hE3 hx3 hxN hbB hbx hwx h
 go_wp2_with fail
 rw [← hw3]
 refine HTOP.out.mono ?_
 rintro e w4 ⟨rfl, nq, rfl⟩
 clear hw3 d1 d5 f1 f5 ew hcast
 obtain ⟨W, hW⟩ : ∃ W, W = w3.drewN nq := ⟨_, rfl⟩
 have bW : Below w3.heap.size w3 W := by rw [hW]; exact Go.below_drewN (Below.refl _ _) nq
 rw [← hW]
 clear hW
 have hEW := HE3.out.below bW
 obtain ⟨v1, v2⟩ := vt
 have hxW : W.heap[w.heap.size]? = _ := (bW.block _ (Array.getElem?_eq_some_iff.1 HX3.out).1).trans HX3.out
 have x0 : W.cell? ⟨w.heap.size, 0, none⟩ = some (.int .i64 x.kind) := (cell_of _ _ _ _ hxW 0).trans rfl
 have x1 : W.cell? ⟨w.heap.size, 1, none⟩ = some (.int .u64 x.w0) := (cell_of _ _ _ _ hxW 1).trans rfl
 have x2 : W.cell? ⟨w.heap.size, 2, none⟩ = some (.int .u64 x.w1) := (cell_of _ _ _ _ hxW 2).trans rfl
 have x3 : W.cell? ⟨w.heap.size, 3, none⟩ = some (.int .u64 x.w2) := (cell_of _ _ _ _ hxW 3).trans rfl
 have x4 : W.cell? ⟨w.heap.size, 4, none⟩ = some (.int .u64 x.w3) := (cell_of _ _ _ _ hxW 4).trans rfl
 have x5 : W.cell? ⟨w.heap.size, 5, none⟩ = some (.int .i64 x.a) := (cell_of _ _ _ _ hxW 5).trans rfl
 have x6 : W.cell? ⟨w.heap.size, 6, none⟩ = some (.int .i64 x.b) := (cell_of _ _ _ _ hxW 6).trans rfl
 have x7 : W.cell? ⟨w.heap.size, 7, none⟩ = some (.int .i64 x.mn) := (cell_of _ _ _ _ hxW 7).trans rfl
 have x8 : W.cell? ⟨w.heap.size, 8, none⟩ = some (.int .i64 x.mx) := (cell_of _ _ _ _ hxW 8).trans rfl
 have x9 : W.cell? ⟨w.heap.size, 9, none⟩ = some (.int .i64 x.n) := (cell_of _ _ _ _ hxW 9).trans rfl
 have t3 : W.cell? ⟨gL, r.lo.length * 4 + 3, none⟩ = some v2 := by
  obtain ⟨g', c', e, _, hcell, _⟩ := hEW.P.top
  rw [hL] at e
  cases e
  exact hcell 3 _ rfl
 have HEW := Lib.hid hEW
 have HPUT := Lib.hid (fun W' (hB : Below W.heap.size W W') => eput_c x W' (hEW.below hB))
 clear hEW hxW
 go_wp2_with fail
 refine wp_region_held_drew (S := fun _ => True) (by kernel_rfl) trivial (fun _ => ?_)
 refine wpAnyH_take (i := 0) (v := ?_) rfl (by kernel_rfl) (by kernel_rfl) (by kernel_rfl) (fun _ _ _ h => h) (Or.inl ⟨by kernel_rfl, ?_⟩) (by trivial) ?_
 rotate_left
 ·(intro w hSw; (try dsimp only at hSw); go_simp); (try with_reducible rfl)
 try simp only [Act.put, laS]
 refine wpAnyH_take (i := 1) (v := ?_) rfl (by kernel_rfl) (by kernel_rfl) (by kernel_rfl) (fun _ _ _ h => h) (Or.inl ⟨by kernel_rfl, ?_⟩) (by trivial) ?_
 rotate_left
 ·(intro w hSw; (try dsimp only at hSw); go_simp); (try with_reducible rfl)
 try simp only [Act.put, laS]
 refine wpAnyH_take (i := 2) (v := ?_) rfl (by kernel_rfl) (by kernel_rfl) (by kernel_rfl) (fun _ _ _ h => h) (Or.inl ⟨by kernel_rfl, ?_⟩) (by trivial) ?_
 rotate_left
 ·(intro w hSw; (try dsimp only at hSw); go_simp); (try with_reducible rfl)
 try simp only [Act.put, laS]
 refine wpAnyH_take (i := 3) (v := ?_) rfl (by kernel_rfl) (by kernel_rfl) (by kernel_rfl) (fun _ _ _ h => h) (Or.inl ⟨by kernel_rfl, ?_⟩) (by trivial) ?_
 rotate_left
 ·(intro w hSw; (try dsimp only at hSw); go_simp); (try with_reducible rfl)
 try simp only [Act.put, laS]
 refine wpAnyH_take (i := 5) (v := ?_) rfl (by kernel_rfl) (by kernel_rfl) (by kernel_rfl) (fun _ _ _ h => h) (Or.inl ⟨by kernel_rfl, ?_⟩) (by trivial) ?_
 rotate_left
 ·(intro w hSw; (try dsimp only at hSw); go_simp); (try with_reducible rfl)
 try simp only [Act.put, laS]
 refine wpAnyH_ready (rs := [4, 6]) (by kernel_rfl) (by simp) ?_
 refine AllReadyH.cons rfl (fun K hK => ?_) (AllReadyH.cons rfl (fun K hK => ?_) AllReadyH.nil)
 ·go_simp
  refine hK.out _ _ trivial (fun _ => ?_)
  clear hK K
  try simp only [Act.put, laS]
  refine wpAnyH_ready (rs := [6]) (by kernel_rfl) (by simp) ?_
  refine AllReadyH.cons rfl (fun K hK => ?_) AllReadyH.nil
  go_simp
  refine hK.out _ _ trivial (fun _ => ?_)
  clear hK K
  try simp only [Act.put, laS]
  refine wpAnyH_ready (rs := [7]) (by kernel_rfl) (by simp) ?_
  refine AllReadyH.cons rfl (fun K hK => ?_) AllReadyH.nil
  go_simp
  refine (HPUT.out W.drew ((Below.refl _ W).drew)).mono ?_
  rintro e w5 ⟨rfl, vl5, hE5, hk5⟩
  refine hK.out _ _ trivial (fun _ => ?_)
  clear hK K
  have hE5' := Lib.hid hE5
  have hk5' := Lib.hid hk5
  have t5 : w5.cell? ⟨gL, r.lo.length * 4 + 3, none⟩ = some v2 := by
   obtain ⟨g', c', e, _, hcell, _⟩ := hE5.P.top
   rw [hL] at e
   cases e
   exact hcell 3 _ rfl
  have g5 := cell_lt t5
  clear hE5 hk5
  try simp only [Act.put, laS]
  refine wpAnyH_ready (rs := [8]) (by kernel_rfl) (by simp) ?_
  refine AllReadyH.cons rfl (fun K hK => ?_) AllReadyH.nil
  go_simp
  refine hK.out _ _ trivial (fun _ => ?_)
  clear hK K
  try simp only [Act.put, laS]
  refine wpAnyH_ready (rs := [9]) (by kernel_rfl) (by simp) ?_
  refine AllReadyH.cons rfl (fun K hK => ?_) AllReadyH.nil
  rw [if_pos (by kernel_rfl)]
  have hoA := (lvs_snoc hE5'.out.P.ls).2.b.alloc (.cells #[.int .i64 (ES.put { r with p := r.p + n, ia := a } x).idx] 3)
  have hB5 : B ≤ w5.heap.size := by have := hE5'.out.lt; have := hE5'.out.ge; omega
  have hoA' : (w5.alloc (.cells #[.int .i64 (ES.put { r with p := r.p + n, ia := a } x).idx] 3)).ownsRow B 3 1 v2 r.top.items.length (ilist r.top.items) := hoA
  refine wp_append_lies (P := Tryz.prog) _ _ _ 53 rfl B 3 i0 (.int .i64 0) 1 8 Tryz.underlying53 hi0 hz0 hz1 hz2 rfl (by decide) _ r.top.items.length _ rfl hoA' ⟨w5.heap.size, 0, none⟩ 1 1 [.int .i64 (ES.put { r with p := r.p + n, ia := a } x).idx] rfl rfl (cell_one_new _ _ _) (by simp [Value.oneCell']) (by decide) (by unfold maxLen; omega) (by omega) (by rw [World.size_alloc]; omega) _ rfl ?_
  intro g cap3 w6 hown6 hgrow6 hat6 hlt6
  replace hgrow6 : (w5.alloc (.cells #[.int .i64 (ES.put { r with p := r.p + n, ia := a } x).idx] 3)).grownBy w6 v2.ownBlock := hgrow6
  replace hat6 : v2.ownBlock = some g ∨ g = w5.heap.size + 1 := by rw [← World.size_alloc w5 (.cells #[.int .i64 (ES.put { r with p := r.p + n, ia := a } x).idx] 3)]; exact hat6
  have bA5 : Below w5.heap.size w5 (w5.alloc (.cells #[.int .i64 (ES.put { r with p := r.p + n, ia := a } x).idx] 3)) := (Below.refl _ w5).alloc (Nat.le_refl _) _
  have hL5 := hE5'.out.P.top
  have hfin := EM.items hE5'.out hL bA5 hgrow6 hown6 (by rcases hat6 with e | e; exact .inl e.symm; exact .inr ⟨g, rfl, by omega⟩)
  obtain ⟨cL, hcL⟩ := own_block hE5'.out.P.lw (show vL.ownBlock = some gL by rw [hL]; rfl)
  have hnL : some gL ≠ v2.ownBlock := fun e => own_blk (lvs_snoc hE5'.out.P.ls).2.b hcL (by decide) e.symm
  have hgl5 := (Array.getElem?_eq_some_iff.1 hcL).1
  have hc6 : w6.heap[gL]? = some (.cells cL 55 (0, 0)) := by
   rw [hgrow6.block gL (by rw [World.size_alloc]; omega) hnL, bA5.block gL hgl5]; exact hcL
  have t6 : w6.cell? ⟨gL, r.lo.length * 4 + 3, none⟩ = some v2 := by
   rw [cell_of _ _ _ _ hc6, ← cell_of _ _ _ _ hcL]; exact t5
  have f6 := frozen_of _ _ _ _ hc6 (r.lo.length * 4 + 3)
  have HFN := Lib.hid hfin
  clear hfin hown6 hgrow6 hat6 hoA hoA' bA5 hL5 hcL hnL hc6
  refine hK.out _ _ trivial (fun _ => ?_)
  clear hK K
  try simp only [Act.put, laS]
  refine wpAnyH_take (i := 10) (v := ?_) rfl (by kernel_rfl) (by kernel_rfl) (by kernel_rfl) (fun _ _ _ h => h) (Or.inl ⟨by kernel_rfl, ?_⟩) (by trivial) ?_
  rotate_left
  ·(intro w hSw; (try dsimp only at hSw); go_simp); (try with_reducible rfl)
  try simp only [Act.put, laS]
  refine wpAnyH_take (i := 11) (v := ?_) rfl (by kernel_rfl) (by kernel_rfl) (by kernel_rfl) (fun _ _ _ h => h) (Or.inl ⟨by kernel_rfl, ?_⟩) (by trivial) ?_
  rotate_left
  ·(intro w hSw; (try dsimp only at hSw); go_simp); (try with_reducible rfl)
  try simp only [Act.put, laS]
  refine wpAnyH_ready (rs := [12]) (by kernel_rfl) (by simp) ?_
  refine AllReadyH.cons rfl (fun K hK => ?_) AllReadyH.nil
  go_simp
  refine hK.out _ _ trivial (fun _ => ?_)
  clear hK K
  try simp only [Act.put, laS]
  refine wpAnyH_done (by kernel_rfl) ?_ _
  go_wp2
  go_ret
  exact ⟨rfl, ⟨_, _, _, by have := HFN.out.1; rw [hL] at this; exact this⟩, ((HBB.out.trans (bW.mono (by have := HBB.out.size; omega))).drew).trans (hk5'.out.bel.trans HFN.out.2)⟩
 ·go_simp
  refine hK.out _ _ trivial (fun _ => ?_)
  clear hK K
  try simp only [Act.put, laS]
  refine wpAnyH_ready (rs := [4, 7]) (by kernel_rfl) (by simp) ?_
  refine AllReadyH.cons rfl (fun K hK => ?_) (AllReadyH.cons rfl (fun K hK => ?_) AllReadyH.nil)
  ·go_simp
   refine hK.out _ _ trivial (fun _ => ?_)
   clear hK K
   try simp only [Act.put, laS]
   refine wpAnyH_ready (rs := [7]) (by kernel_rfl) (by simp) ?_
   refine AllReadyH.cons rfl (fun K hK => ?_) AllReadyH.nil
   go_simp
   refine (HPUT.out W.drew ((Below.refl _ W).drew)).mono ?_
   rintro e w5 ⟨rfl, vl5, hE5, hk5⟩
   refine hK.out _ _ trivial (fun _ => ?_)
   clear hK K
   have hE5' := Lib.hid hE5
   have hk5' := Lib.hid hk5
   have t5 : w5.cell? ⟨gL, r.lo.length * 4 + 3, none⟩ = some v2 := by
    obtain ⟨g', c', e, _, hcell, _⟩ := hE5.P.top
    rw [hL] at e
    cases e
    exact hcell 3 _ rfl
   have g5 := cell_lt t5
   clear hE5 hk5
   try simp only [Act.put, laS]
   refine wpAnyH_ready (rs := [8]) (by kernel_rfl) (by simp) ?_
   refine AllReadyH.cons rfl (fun K hK => ?_) AllReadyH.nil
   go_simp
   refine hK.out _ _ trivial (fun _ => ?_)
   clear hK K
   try simp only [Act.put, laS]
   refine wpAnyH_ready (rs := [9]) (by kernel_rfl) (by simp) ?_
   refine AllReadyH.cons rfl (fun K hK => ?_) AllReadyH.nil
   rw [if_pos (by kernel_rfl)]
   have hoA := (lvs_snoc hE5'.out.P.ls).2.b.alloc (.cells #[.int .i64 (ES.put { r with p := r.p + n, ia := a } x).idx] 3)
   have hB5 : B ≤ w5.heap.size := by have := hE5'.out.lt; have := hE5'.out.ge; omega
   have hoA' : (w5.alloc (.cells #[.int .i64 (ES.put { r with p := r.p + n, ia := a } x).idx] 3)).ownsRow B 3 1 v2 r.top.items.length (ilist r.top.items) := hoA
   refine wp_append_lies (P := Tryz.prog) _ _ _ 53 rfl B 3 i0 (.int .i64 0) 1 8 Tryz.underlying53 hi0 hz0 hz1 hz2 rfl (by decide) _ r.top.items.length _ rfl hoA' ⟨w5.heap.size, 0, none⟩ 1 1 [.int .i64 (ES.put { r with p := r.p + n, ia := a } x).idx] rfl rfl (cell_one_new _ _ _) (by simp [Value.oneCell']) (by decide) (by unfold maxLen; omega) (by omega) (by rw [World.size_alloc]; omega) _ rfl ?_
   intro g cap3 w6 hown6 hgrow6 hat6 hlt6
   replace hgrow6 : (w5.alloc (.cells #[.int .i64 (ES.put { r with p := r.p + n, ia := a } x).idx] 3)).grownBy w6 v2.ownBlock := hgrow6
   replace hat6 : v2.ownBlock = some g ∨ g = w5.heap.size + 1 := by rw [← World.size_alloc w5 (.cells #[.int .i64 (ES.put { r with p := r.p + n, ia := a } x).idx] 3)]; exact hat6
   have bA5 : Below w5.heap.size w5 (w5.alloc (.cells #[.int .i64 (ES.put { r with p := r.p + n, ia := a } x).idx] 3)) := (Below.refl _ w5).alloc (Nat.le_refl _) _
   have hL5 := hE5'.out.P.top
   have hfin := EM.items hE5'.out hL bA5 hgrow6 hown6 (by rcases hat6 with e | e; exact .inl e.symm; exact .inr ⟨g, rfl, by omega⟩)
   obtain ⟨cL, hcL⟩ := own_block hE5'.out.P.lw (show vL.ownBlock = some gL by rw [hL]; rfl)
   have hnL : some gL ≠ v2.ownBlock := fun e => own_blk (lvs_snoc hE5'.out.P.ls).2.b hcL (by decide) e.symm
   have hgl5 := (Array.getElem?_eq_some_iff.1 hcL).1
   have hc6 : w6.heap[gL]? = some (.cells cL 55 (0, 0)) := by
    rw [hgrow6.block gL (by rw [World.size_alloc]; omega) hnL, bA5.block gL hgl5]; exact hcL
   have t6 : w6.cell? ⟨gL, r.lo.length * 4 + 3, none⟩ = some v2 := by
    rw [cell_of _ _ _ _ hc6, ← cell_of _ _ _ _ hcL]; exact t5
   have f6 := frozen_of _ _ _ _ hc6 (r.lo.length * 4 + 3)
   have HFN := Lib.hid hfin
   clear hfin hown6 hgrow6 hat6 hoA hoA' bA5 hL5 hcL hnL hc6
   refine hK.out _ _ trivial (fun _ => ?_)
   clear hK K
   try simp only [Act.put, laS]
   refine wpAnyH_take (i := 10) (v := ?_) rfl (by kernel_rfl) (by kernel_rfl) (by kernel_rfl) (fun _ _ _ h => h) (Or.inl ⟨by kernel_rfl, ?_⟩) (by trivial) ?_
   rotate_left
   ·(intro w hSw; (try dsimp only at hSw); go_simp); (try with_reducible rfl)
   try simp only [Act.put, laS]
   refine wpAnyH_take (i := 11) (v := ?_) rfl (by kernel_rfl) (by kernel_rfl) (by kernel_rfl) (fun _ _ _ h => h) (Or.inl ⟨by kernel_rfl, ?_⟩) (by trivial) ?_
   rotate_left
   ·(intro w hSw; (try dsimp only at hSw); go_simp); (try with_reducible rfl)
   try simp only [Act.put, laS]
   refine wpAnyH_ready (rs := [12]) (by kernel_rfl) (by simp) ?_
   refine AllReadyH.cons rfl (fun K hK => ?_) AllReadyH.nil
   go_simp
   refine hK.out _ _ trivial (fun _ => ?_)
   clear hK K
   try simp only [Act.put, laS]
   refine wpAnyH_done (by kernel_rfl) ?_ _
   go_wp2
   go_ret
   exact ⟨rfl, ⟨_, _, _, by have := HFN.out.1; rw [hL] at this; exact this⟩, ((HBB.out.trans (bW.mono (by have := HBB.out.size; omega))).drew).trans (hk5'.out.bel.trans HFN.out.2)⟩
  ·go_simp
   refine (HPUT.out W.drew ((Below.refl _ W).drew)).mono ?_
   rintro e w5 ⟨rfl, vl5, hE5, hk5⟩
   refine hK.out _ _ trivial (fun _ => ?_)
   clear hK K
   have hE5' := Lib.hid hE5
   have hk5' := Lib.hid hk5
   have t5 : w5.cell? ⟨gL, r.lo.length * 4 + 3, none⟩ = some v2 := by
    obtain ⟨g', c', e, _, hcell, _⟩ := hE5.P.top
    rw [hL] at e
    cases e
    exact hcell 3 _ rfl
   have g5 := cell_lt t5
   clear hE5 hk5
   try simp only [Act.put, laS]
   refine wpAnyH_ready (rs := [4, 8]) (by kernel_rfl) (by simp) ?_
   refine AllReadyH.cons rfl (fun K hK => ?_) (AllReadyH.cons rfl (fun K hK => ?_) AllReadyH.nil)
   ·go_simp
    refine hK.out _ _ trivial (fun _ => ?_)
    clear hK K
    try simp only [Act.put, laS]
    refine wpAnyH_ready (rs := [8]) (by kernel_rfl) (by simp) ?_
    refine AllReadyH.cons rfl (fun K hK => ?_) AllReadyH.nil
    go_simp
    refine hK.out _ _ trivial (fun _ => ?_)
    clear hK K
    try simp only [Act.put, laS]
    refine wpAnyH_ready (rs := [9]) (by kernel_rfl) (by simp) ?_
    refine AllReadyH.cons rfl (fun K hK => ?_) AllReadyH.nil
    rw [if_pos (by kernel_rfl)]
    have hoA := (lvs_snoc hE5'.out.P.ls).2.b.alloc (.cells #[.int .i64 (ES.put { r with p := r.p + n, ia := a } x).idx] 3)
    have hB5 : B ≤ w5.heap.size := by have := hE5'.out.lt; have := hE5'.out.ge; omega
    have hoA' : (w5.alloc (.cells #[.int .i64 (ES.put { r with p := r.p + n, ia := a } x).idx] 3)).ownsRow B 3 1 v2 r.top.items.length (ilist r.top.items) := hoA
    refine wp_append_lies (P := Tryz.prog) _ _ _ 53 rfl B 3 i0 (.int .i64 0) 1 8 Tryz.underlying53 hi0 hz0 hz1 hz2 rfl (by decide) _ r.top.items.length _ rfl hoA' ⟨w5.heap.size, 0, none⟩ 1 1 [.int .i64 (ES.put { r with p := r.p + n, ia := a } x).idx] rfl rfl (cell_one_new _ _ _) (by simp [Value.oneCell']) (by decide) (by unfold maxLen; omega) (by omega) (by rw [World.size_alloc]; omega) _ rfl ?_
    intro g cap3 w6 hown6 hgrow6 hat6 hlt6
    replace hgrow6 : (w5.alloc (.cells #[.int .i64 (ES.put { r with p := r.p + n, ia := a } x).idx] 3)).grownBy w6 v2.ownBlock := hgrow6
    replace hat6 : v2.ownBlock = some g ∨ g = w5.heap.size + 1 := by rw [← World.size_alloc w5 (.cells #[.int .i64 (ES.put { r with p := r.p + n, ia := a } x).idx] 3)]; exact hat6
    have bA5 : Below w5.heap.size w5 (w5.alloc (.cells #[.int .i64 (ES.put { r with p := r.p + n, ia := a } x).idx] 3)) := (Below.refl _ w5).alloc (Nat.le_refl _) _
    have hL5 := hE5'.out.P.top
    have hfin := EM.items hE5'.out hL bA5 hgrow6 hown6 (by rcases hat6 with e | e; exact .inl e.symm; exact .inr ⟨g, rfl, by omega⟩)
    obtain ⟨cL, hcL⟩ := own_block hE5'.out.P.lw (show vL.ownBlock = some gL by rw [hL]; rfl)
    have hnL : some gL ≠ v2.ownBlock := fun e => own_blk (lvs_snoc hE5'.out.P.ls).2.b hcL (by decide) e.symm
    have hgl5 := (Array.getElem?_eq_some_iff.1 hcL).1
    have hc6 : w6.heap[gL]? = some (.cells cL 55 (0, 0)) := by
     rw [hgrow6.block gL (by rw [World.size_alloc]; omega) hnL, bA5.block gL hgl5]; exact hcL
    have t6 : w6.cell? ⟨gL, r.lo.length * 4 + 3, none⟩ = some v2 := by
     rw [cell_of _ _ _ _ hc6, ← cell_of _ _ _ _ hcL]; exact t5
    have f6 := frozen_of _ _ _ _ hc6 (r.lo.length * 4 + 3)
    have HFN := Lib.hid hfin
    clear hfin hown6 hgrow6 hat6 hoA hoA' bA5 hL5 hcL hnL hc6
    refine hK.out _ _ trivial (fun _ => ?_)
    clear hK K
    try simp only [Act.put, laS]
    refine wpAnyH_take (i := 10) (v := ?_) rfl (by kernel_rfl) (by kernel_rfl) (by kernel_rfl) (fun _ _ _ h => h) (Or.inl ⟨by kernel_rfl, ?_⟩) (by trivial) ?_
    rotate_left
    ·(intro w hSw; (try dsimp only at hSw); go_simp); (try with_reducible rfl)
    try simp only [Act.put, laS]
    refine wpAnyH_take (i := 11) (v := ?_) rfl (by kernel_rfl) (by kernel_rfl) (by kernel_rfl) (fun _ _ _ h => h) (Or.inl ⟨by kernel_rfl, ?_⟩) (by trivial) ?_
    rotate_left
    ·(intro w hSw; (try dsimp only at hSw); go_simp); (try with_reducible rfl)
    try simp only [Act.put, laS]
    refine wpAnyH_ready (rs := [12]) (by kernel_rfl) (by simp) ?_
    refine AllReadyH.cons rfl (fun K hK => ?_) AllReadyH.nil
    go_simp
    refine hK.out _ _ trivial (fun _ => ?_)
    clear hK K
    try simp only [Act.put, laS]
    refine wpAnyH_done (by kernel_rfl) ?_ _
    go_wp2
    go_ret
    exact ⟨rfl, ⟨_, _, _, by have := HFN.out.1; rw [hL] at this; exact this⟩, ((HBB.out.trans (bW.mono (by have := HBB.out.size; omega))).drew).trans (hk5'.out.bel.trans HFN.out.2)⟩
   ·go_simp
    refine hK.out _ _ trivial (fun _ => ?_)
    clear hK K
    try simp only [Act.put, laS]
    refine wpAnyH_ready (rs := [4]) (by kernel_rfl) (by simp) ?_
    refine AllReadyH.cons rfl (fun K hK => ?_) AllReadyH.nil
    go_simp
    refine hK.out _ _ trivial (fun _ => ?_)
    clear hK K
    try simp only [Act.put, laS]
    refine wpAnyH_ready (rs := [9]) (by kernel_rfl) (by simp) ?_
    refine AllReadyH.cons rfl (fun K hK => ?_) AllReadyH.nil
    rw [if_pos (by kernel_rfl)]
    have hoA := (lvs_snoc hE5'.out.P.ls).2.b.alloc (.cells #[.int .i64 (ES.put { r with p := r.p + n, ia := a } x).idx] 3)
    have hB5 : B ≤ w5.heap.size := by have := hE5'.out.lt; have := hE5'.out.ge; omega
    have hoA' : (w5.alloc (.cells #[.int .i64 (ES.put { r with p := r.p + n, ia := a } x).idx] 3)).ownsRow B 3 1 v2 r.top.items.length (ilist r.top.items) := hoA
    refine wp_append_lies (P := Tryz.prog) _ _ _ 53 rfl B 3 i0 (.int .i64 0) 1 8 Tryz.underlying53 hi0 hz0 hz1 hz2 rfl (by decide) _ r.top.items.length _ rfl hoA' ⟨w5.heap.size, 0, none⟩ 1 1 [.int .i64 (ES.put { r with p := r.p + n, ia := a } x).idx] rfl rfl (cell_one_new _ _ _) (by simp [Value.oneCell']) (by decide) (by unfold maxLen; omega) (by omega) (by rw [World.size_alloc]; omega) _ rfl ?_
    intro g cap3 w6 hown6 hgrow6 hat6 hlt6
    replace hgrow6 : (w5.alloc (.cells #[.int .i64 (ES.put { r with p := r.p + n, ia := a } x).idx] 3)).grownBy w6 v2.ownBlock := hgrow6
    replace hat6 : v2.ownBlock = some g ∨ g = w5.heap.size + 1 := by rw [← World.size_alloc w5 (.cells #[.int .i64 (ES.put { r with p := r.p + n, ia := a } x).idx] 3)]; exact hat6
    have bA5 : Below w5.heap.size w5 (w5.alloc (.cells #[.int .i64 (ES.put { r with p := r.p + n, ia := a } x).idx] 3)) := (Below.refl _ w5).alloc (Nat.le_refl _) _
    have hL5 := hE5'.out.P.top
    have hfin := EM.items hE5'.out hL bA5 hgrow6 hown6 (by rcases hat6 with e | e; exact .inl e.symm; exact .inr ⟨g, rfl, by omega⟩)
    obtain ⟨cL, hcL⟩ := own_block hE5'.out.P.lw (show vL.ownBlock = some gL by rw [hL]; rfl)
    have hnL : some gL ≠ v2.ownBlock := fun e => own_blk (lvs_snoc hE5'.out.P.ls).2.b hcL (by decide) e.symm
    have hgl5 := (Array.getElem?_eq_some_iff.1 hcL).1
    have hc6 : w6.heap[gL]? = some (.cells cL 55 (0, 0)) := by
     rw [hgrow6.block gL (by rw [World.size_alloc]; omega) hnL, bA5.block gL hgl5]; exact hcL
    have t6 : w6.cell? ⟨gL, r.lo.length * 4 + 3, none⟩ = some v2 := by
     rw [cell_of _ _ _ _ hc6, ← cell_of _ _ _ _ hcL]; exact t5
    have f6 := frozen_of _ _ _ _ hc6 (r.lo.length * 4 + 3)
    have HFN := Lib.hid hfin
    clear hfin hown6 hgrow6 hat6 hoA hoA' bA5 hL5 hcL hnL hc6
    refine hK.out _ _ trivial (fun _ => ?_)
    clear hK K
    try simp only [Act.put, laS]
    refine wpAnyH_take (i := 10) (v := ?_) rfl (by kernel_rfl) (by kernel_rfl) (by kernel_rfl) (fun _ _ _ h => h) (Or.inl ⟨by kernel_rfl, ?_⟩) (by trivial) ?_
    rotate_left
    ·(intro w hSw; (try dsimp only at hSw); go_simp); (try with_reducible rfl)
    try simp only [Act.put, laS]
    refine wpAnyH_take (i := 11) (v := ?_) rfl (by kernel_rfl) (by kernel_rfl) (by kernel_rfl) (fun _ _ _ h => h) (Or.inl ⟨by kernel_rfl, ?_⟩) (by trivial) ?_
    rotate_left
    ·(intro w hSw; (try dsimp only at hSw); go_simp); (try with_reducible rfl)
    try simp only [Act.put, laS]
    refine wpAnyH_ready (rs := [12]) (by kernel_rfl) (by simp) ?_
    refine AllReadyH.cons rfl (fun K hK => ?_) AllReadyH.nil
    go_simp
    refine hK.out _ _ trivial (fun _ => ?_)
    clear hK K
    try simp only [Act.put, laS]
    refine wpAnyH_done (by kernel_rfl) ?_ _
    go_wp2
    go_ret
    exact ⟨rfl, ⟨_, _, _, by have := HFN.out.1; rw [hL] at this; exact this⟩, ((HBB.out.trans (bW.mono (by have := HBB.out.size; omega))).drew).trans (hk5'.out.bel.trans HFN.out.2)⟩
end
end Go.Proofs.YtdjcgjkbecncaaaGreatDoor
namespace Go.Proofs.YtdjcgjkbecncaaaGreatDoor
open Go.RowKit
def IOut (B b mb : Nat) (mo : Obj) (s : List UInt8) (vL : Value) (vo : List (Value × Value)) (r : ES) (w : World) (e : Ending) (w' : World) : Prop :=
 e = .returned (.int .i64 0) ∧ (∃ vl' vt', EM B b mb mo s r vl' vL vo vt' w') ∧ Below B w w'
section
variable {B b mb : Nat} {mo : Obj} {s : List UInt8} {r : ES} {vl vL : Value} {vo : List (Value × Value)} {vt : Value × Value} {w : World}
theorem IOut.ahead {w0 : World} {q : ES} {e : Ending} {w' : World} (h : IOut B b mb mo s vL vo q w e w') (hB : Below B w0 w) : IOut B b mb mo s vL vo q w0 e w' := ⟨h.1, h.2.1, hB.trans h.2.2⟩
theorem EM.Bw (h : EM B b mb mo s r vl vL vo vt w) : B ≤ w.heap.size := by have := h.ge; have := h.lt; omega
theorem ebytes_c (F : Nat → Bool) (n : Nat) (w : World) (h : EM B b mb mo s r vl vL vo vt w) (hp : r.p + n ≤ s.length) (hi : r.top.items.length ≤ 200000) :
  Calls Tryz.prog 68 #[.pointer (some ⟨b, 0, none⟩), sv F, .int .i64 n] w (IOut B b mb mo s vL vo (r.item (setNd F) n true) w) := by
 have bA : Below w.heap.size w (w.alloc (.cells #[.int .u64 (wd F 0), .int .u64 (wd F 1), .int .u64 (wd F 2), .int .u64 (wd F 3)] 24)) := (Below.refl _ w).alloc (Nat.le_refl _) _
 have HI := Lib.hid (eitem_c (setNd F) n true _ (h.below bA) hp hi)
 have HB := Lib.hid (bA.mono h.Bw)
 unfold sv
 clear h bA
 go_enter Tryz.func68, Tryz.ntmps68
 go_wp2_with fail
 refine HI.out.mono ?_
 rintro e w1 ⟨rfl, hE, hB1⟩
 have HE := Lib.hid (And.intro hE (HB.out.trans hB1))
 clear hE hB1
 go_wp2
 go_ret
 exact ⟨rfl, HE.out.1, HE.out.2⟩
theorem ebegin_c (w : World) (h : EM B b mb mo s r vl vL vo vt w) (hp : r.p + 1 ≤ s.length) (hi : r.top.items.length ≤ 200000) :
  Calls Tryz.prog 56 #[.pointer (some ⟨b, 0, none⟩)] w (IOut B b mb mo s vL vo (r.item (kindNd 2) 1 false) w) := by
 have HI := Lib.hid (eitem_c (kindNd 2) 1 false _ h hp hi)
 clear h
 go_enter Tryz.func56, Tryz.ntmps56
 go_wp2_with fail
 refine HI.out.mono ?_
 rintro e w1 ⟨rfl, hE, hB1⟩
 have HE := Lib.hid (And.intro hE hB1)
 clear hE hB1
 go_wp2
 go_ret
 exact ⟨rfl, HE.out.1, HE.out.2⟩
theorem eend_c (w : World) (h : EM B b mb mo s r vl vL vo vt w) (hp : r.p + 1 ≤ s.length) (hi : r.top.items.length ≤ 200000) :
  Calls Tryz.prog 57 #[.pointer (some ⟨b, 0, none⟩)] w (IOut B b mb mo s vL vo (r.item (kindNd 3) 1 false) w) := by
 have HI := Lib.hid (eitem_c (kindNd 3) 1 false _ h hp hi)
 clear h
 go_enter Tryz.func57, Tryz.ntmps57
 go_wp2_with fail
 refine HI.out.mono ?_
 rintro e w1 ⟨rfl, hE, hB1⟩
 have HE := Lib.hid (And.intro hE hB1)
 clear hE hB1
 go_wp2
 go_ret
 exact ⟨rfl, HE.out.1, HE.out.2⟩
theorem edot_c (w : World) (h : EM B b mb mo s r vl vL vo vt w) (hp : r.p + 1 ≤ s.length) (hi : r.top.items.length ≤ 200000) :
  Calls Tryz.prog 58 #[.pointer (some ⟨b, 0, none⟩)] w (IOut B b mb mo s vL vo (r.item (setNd fun _ => true) 1 true) w) := by
 have HN := Lib.hid (not_c (fun _ => false) w)
 have e1 : sv (fun _ => false) = .agg #[.int .u64 0, .int .u64 0, .int .u64 0, .int .u64 0] := by
  have z : ∀ k, wd (fun _ => false) k = 0 := fun k => by
   apply Nat.eq_of_testBit_eq
   intro i
   by_cases hi : i < 64
   ·rw [wd_bit _ _ _ hi]; simp
   ·rw [Nat.testBit_lt_two_pow (Nat.lt_of_lt_of_le (wd_lt _ k) (show 2 ^ 64 ≤ 2 ^ i from Nat.pow_le_pow_right (by omega) (by omega)))]; simp
  unfold sv; rw [z, z, z, z]; rfl
 have e2 : sv (fun i => !(fun _ : Nat => false) i) = sv (fun _ => true) := sv_congr (fun i _ => rfl)
 rw [e1, e2] at HN
 have HBY := Lib.hid (fun w1 (hB : Below w.heap.size w w1) => ebytes_c (fun _ => true) 1 w1 (h.below hB) hp hi)
 have HBw := Lib.hid h.Bw
 clear h e1 e2
 go_enter Tryz.func58, Tryz.ntmps58
 go_wp2_with fail
 refine HN.out.mono ?_
 rintro e w1 ⟨rfl, hB1⟩
 go_wp2_with fail
 refine (HBY.out w1 hB1).mono ?_
 rintro e w2 hO
 obtain ⟨rfl, hE, hB2⟩ := hO
 have HE := Lib.hid (And.intro hE ((hB1.mono HBw.out).trans hB2))
 clear hE hB2
 go_wp2
 go_ret
 exact ⟨rfl, HE.out.1, HE.out.2⟩
theorem eitself_c (c : UInt8) (hc : s[r.p]? = some c) (w : World) (h : EM B b mb mo s r vl vL vo vt w) (hp : r.p + 1 ≤ s.length) (hi : r.top.items.length ≤ 200000) :
  Calls Tryz.prog 29 #[.pointer (some ⟨b, 0, none⟩)] w (IOut B b mb mo s vL vo (r.item (setNd fun i => i == c.toNat) 1 true) w) := by
 have d0 : w.cell? ⟨b, 0, none⟩ = some (.string ⟨s.toArray⟩) := (h.cell 0).trans rfl
 have d1 : w.cell? ⟨b, 1, none⟩ = some (.int .i64 (r.p : Int)) := (h.cell 1).trans rfl
 obtain ⟨S, hS⟩ : ∃ S : ByteArray, S = ⟨s.toArray⟩ := ⟨_, rfl⟩
 have hsz : S.size = s.length := by rw [hS]; simp [ByteArray.size]
 have hl := h.len
 obtain ⟨C, hC⟩ : ∃ C : ByteArray, C = ⟨#[c]⟩ := ⟨_, rfl⟩
 have hsl : ∀ W, (Instr.slice 9 (.string S) (some (.int .i64 (r.p : Int))) (some (.int .i64 ((r.p : Int) + 1))) none).run Tryz.prog W = .ok (.string C) W := fun W => by
  have e : S.extract (r.p : Int).toNat ((r.p : Int) + 1).toNat = C := by
   rw [hC, hS]
   apply ByteArray.ext
   apply Array.ext'
   have h3 : ((r.p : Int) + 1).toNat = r.p + 1 := by omega
   simp only [ByteArray.data_extract, Array.toList_extract, h3, Int.toNat_natCast, List.extract_eq_take_drop, Nat.add_sub_cancel_left]
   obtain ⟨hk, ek⟩ := List.getElem?_eq_some_iff.1 hc
   rw [List.drop_eq_getElem_cons hk, ek]; rfl
  rw [run_slice_string_if (P := Tryz.prog) W 9 _ .i64 .i64 (r.p : Int) ((r.p : Int) + 1) Tryz.underlying9, if_pos ⟨by omega, by omega⟩, if_pos ⟨by omega, by omega⟩, e]
 have hof := fun w => of_c C (by rw [hC]; show 1 < _; omega) w
 have e2 : sv (inS C C.size) = sv (fun i => i == c.toNat) := sv_congr (fun i _ => by
  rw [hC]
  show ([c].take 1).any (fun x => x.toNat == i) = _
  rw [Bool.eq_iff_iff]
  simp
  exact eq_comm)
 rw [e2] at hof
 have HO := Lib.hid hof
 have HBY := Lib.hid (fun w1 (hB : Below w.heap.size w w1) => ebytes_c (fun i => i == c.toNat) 1 w1 (h.below hB) hp hi)
 have HBw := Lib.hid h.Bw
 have ew : IntKind.i64.wrap ((r.p : Int) + 1) = (r.p : Int) + 1 := by simp [IntKind.wrap, IntKind.signed, IntKind.bits]; omega
 rw [← hS] at d0
 clear h e2 hof hS hC hc
 go_enter Tryz.func29, Tryz.ntmps29
 go_wp2_with fail
 go_region_with (first
  | (go_at_call 69; refine (HO.out _).mono ?_; rintro e w1 ⟨rfl, hB1⟩)
  | (go_at_call 68; refine (HBY.out _ (((Below.refl _ w).drew).trans hB1)).mono ?_; rintro e w2 hO; obtain ⟨rfl, hE, hB2⟩ := hO))
 all_goals (
  have HE := Lib.hid (And.intro hE ((((Below.refl B w).drew).trans (hB1.mono HBw.out)).trans hB2))
  clear hE hB2
  go_wp2
  go_ret
  exact ⟨rfl, HE.out.1, HE.out.2⟩)
end
end Go.Proofs.YtdjcgjkbecncaaaGreatDoor
