/- ere: a level is appended. -/
import Derived.Test.YtdjcgjkbecncaaaGreatDoorJEpI
import Derived.OrdersHeld
set_option linter.unusedVariables false
set_option linter.unusedSimpArgs false
set_option maxRecDepth 100000
set_option maxHeartbeats 40000000
namespace Go.Proofs.YtdjcgjkbecncaaaGreatDoor
open Go.RowKit
theorem infoLv : (Tryz.prog.info? 55).map (fun i => (i.zero, i.size, i.bytes)) = some (some (.agg #[.int .i64 0, .int .i64 0, .slice none 0 0, .slice none 0 0]), 4, 64) := by kernel_rfl
section
variable {B b mb : Nat} {mo : Obj} {s : List UInt8} {r : ES} {vl vL : Value} {vo : List (Value × Value)} {vt : Value × Value} {w : World}
theorem EM.push (h : EM B b mb mo s r vl vL vo vt w) {WA w3 : World} {vL' : Value} (p n : Nat) (hwa : Below w.heap.size w WA) (hgrow : WA.grownBy w3 vL.ownBlock)
  (hown : w3.ownsRow B 55 4 vL' (r.lo.length + 1 + 1) (lrow4 (r.lo ++ [r.top]) (vo ++ [vt]) ++ [.int .i64 (p : Int), .int .i64 (n : Int), .slice none 0 0, .slice none 0 0])) :
  EM B b mb mo s { r with lo := r.lo ++ [r.top], top := ⟨p, n, [], []⟩ } vl vL' (vo ++ [vt]) (.slice none 0 0, .slice none 0 0) (w3.setCell ⟨b, 3, none⟩ vL') ∧ Below B w (w3.setCell ⟨b, 3, none⟩ vL') := by
 have hlt := h.lt
 have hge := h.ge
 have hw := hwa.size
 have hll := lvs_len h.P.ls
 have hob := own_blk h.P.lw h.heap (by decide)
 have hb3 : w3.heap[b]? = some (.cells (ecells s r vl vL) 58 (0, 0)) := (hgrow.block b (by omega) (fun e => hob e.symm)).trans ((hwa.block b hlt).trans h.heap)
 have gr0 : w3.grownBy w3 (some b) := ⟨rfl, rfl, rfl, Nat.le_refl _, fun _ _ _ => rfl⟩
 have gr := grown_setc gr0 3 vL'
 have hK : KeepT [55] b w (w3.setCell ⟨b, 3, none⟩ vL') := fun k o hk hne ho => by
  have hkl := (Array.getElem?_eq_some_iff.1 hk).1
  rw [Below.heap_setCell _ _ _ _ (fun e => hne e), hgrow.block k (by omega) (fun e => ?_), hwa.block k hkl]
  ·exact hk
  ·obtain ⟨c, hc2⟩ := own_block h.P.lw e.symm
   rw [hc2] at hk
   cases hk
   exact ho _ (by simp) _ _ rfl
 have hBl : Below B w (w3.setCell ⟨b, 3, none⟩ vL') := ((hwa.mono (by omega)).grown hgrow (by omega) (fun k hk => (h.P.lw.lt k hk).1)).setCell (p := ⟨b, 3, none⟩) hge _
 refine ⟨⟨?_, hge, hK mb _ h.map h.mb_ne (fun T _ c fz e => by have := h.nc; rw [e] at this; cases this), h.nc, ⟨?_, ?_, ?_, ?_, h.P.nodes⟩, h.len, h.small, h.gs⟩, hBl⟩
 ·rw [heap_setCell_same _ b 3 _ _ _ hb3]; rfl
 ·exact own_keepT h.P.nl hK (by decide) (own_blk h.P.nl h.heap (by decide))
 ·rw [lrow4_app _ _ _ _ (by simpa using hll), show (r.lo ++ [r.top] ++ [(⟨p, n, [], []⟩ : EL)]).length = r.lo.length + 1 + 1 by simp]
  exact hown.kept gr (.inr (own_blk hown hb3 (by decide)))
 ·refine lvs_mk ⟨World.ownsRow_nil _ _ _ _, World.ownsRow_nil _ _ _ _⟩ (LVs.keep (fun v m xs hv => own_keepT hv hK (by decide) (own_blk hv h.heap (by decide))) h.P.ls)
 ·have ha : ∀ a : Value, apart a (.slice none 0 0) := fun a => by
   unfold apart
   cases e : a.ownBlock with
   | none => exact .inl rfl
   | some j => exact .inr (by simp [Value.ownBlock])
  exact ap_mk h.P.ap (fun a _ => ⟨ha a, ha a⟩) (ha _)
theorem eopen_c (w : World) (h : EM B b mb mo s r vl vL vo vt w) (hp : r.p + 1 ≤ s.length) (hlo : r.lo.length ≤ 100000) :
  Calls Tryz.prog 60 #[.pointer (some ⟨b, 0, none⟩)] w (SOut B b mb mo s (openE r) w) := by
 have d4 : w.cell? ⟨b, 4, none⟩ = some (.int .i64 (r.g : Int)) := (h.cell 4).trans rfl
 have f4 := h.fz 4
 have hgs := h.gs
 by_cases hg : r.g = 9
 ·have hE : openE r = .error 41 := by unfold openE; rw [if_pos hg]
  rw [hE]
  rw [hg] at d4
  clear h hE hp
  go_enter Tryz.func60, Tryz.ntmps60
  go_wp2
  go_ret
  exact ⟨Below.refl _ _, rfl⟩
 ·have hE : openE r = .ok { r with p := r.p + 1, lo := r.lo ++ [r.top], top := ⟨r.p, r.g + 1, [], []⟩, g := r.g + 1, ia := false } := by unfold openE; rw [if_neg hg]
  rw [hE]
  have hge := h.ge
  have hq : ((r.g : Int) == 9) = false := by rw [beq_eq_false_iff_ne]; omega
  have ew : IntKind.i64.wrap ((r.g : Int) + 1) = (r.g : Int) + 1 := by simp [IntKind.wrap, IntKind.signed, IntKind.bits]; omega
  have hlen := h.len
  have ewp : IntKind.i64.wrap ((r.p : Int) + 1) = (r.p : Int) + 1 := by simp [IntKind.wrap, IntKind.signed, IntKind.bits]; omega
  obtain ⟨i0, hi, hz0, hz1, hz2⟩ := info_parts infoLv
  have h1 : EM B b mb mo s { r with g := r.g + 1 } vl vL vo vt (w.setCell ⟨b, 4, none⟩ (.int .i64 ((r.g : Int) + 1))) := by
   refine EM.set h ?_ (fun k hk => Below.heap_setCell _ _ _ _ (fun e => hk e)) rfl rfl rfl h.small (by show r.g + 1 ≤ 9; omega)
   rw [heap_setCell_same _ b 4 _ _ _ h.heap]; rfl
  have hB1 : Below B w (w.setCell ⟨b, 4, none⟩ (.int .i64 ((r.g : Int) + 1))) := (Below.refl B w).setCell (p := ⟨b, 4, none⟩) hge _
  obtain ⟨w1, hw1⟩ : ∃ w1, w1 = w.setCell ⟨b, 4, none⟩ (.int .i64 ((r.g : Int) + 1)) := ⟨_, rfl⟩
  rw [← hw1] at h1 hB1
  obtain ⟨gL, capL, hL, _⟩ := h.P.top
  subst hL
  have a1 : w1.cell? ⟨b, 1, none⟩ = some (.int .i64 (r.p : Int)) := (h1.cell 1).trans rfl
  have a3 : w1.cell? ⟨b, 3, none⟩ = some (.slice (some ⟨gL, 0, none⟩) (r.lo.length + 1) capL) := (h1.cell 3).trans rfl
  have a4 : w1.cell? ⟨b, 4, none⟩ = some (.int .i64 ((r.g : Int) + 1)) := (h1.cell 4).trans rfl
  have hbA : Below w1.heap.size w1 ((w1.alloc (.cells #[.int .i64 (r.p : Int), .int .i64 ((r.g : Int) + 1), .slice none 0 0, .slice none 0 0] 55)).drew) := ((Below.refl _ w1).alloc (Nat.le_refl _) _).drew
  have hA := h1.below hbA
  have hlt := h1.lt
  have hce : ∀ j u, ([.int .i64 (r.p : Int), .int .i64 ((r.g : Int) + 1), .slice none 0 0, .slice none 0 0] : List Value)[j]? = some u → ((w1.alloc (.cells #[.int .i64 (r.p : Int), .int .i64 ((r.g : Int) + 1), .slice none 0 0, .slice none 0 0] 55)).drew).cell? ((⟨w1.heap.size, 0, none⟩ : Addr).add j) = some u := fun j u hj => by
   have hh : ((w1.alloc (.cells #[.int .i64 (r.p : Int), .int .i64 ((r.g : Int) + 1), .slice none 0 0, .slice none 0 0] 55)).drew).heap[w1.heap.size]? = some (.cells #[.int .i64 (r.p : Int), .int .i64 ((r.g : Int) + 1), .slice none 0 0, .slice none 0 0] 55 (0, 0)) := heap_new w1 (.cells #[.int .i64 (r.p : Int), .int .i64 ((r.g : Int) + 1), .slice none 0 0, .slice none 0 0] 55)
   rw [Addr.add_lit, Nat.zero_add, cell_of _ _ _ _ hh]
   simpa using hj
  have hoa := hA.P.lw
  simp only [List.length_append, List.length_cons, List.length_nil] at hoa
  have HOA := Lib.hid hoa
  have HBA := Lib.hid hA.heap
  have HSA : Hid (B ≤ ((w1.alloc (.cells #[.int .i64 (r.p : Int), .int .i64 ((r.g : Int) + 1), .slice none 0 0, .slice none 0 0] 55)).drew).heap.size) := Lib.hid (by show B ≤ (w1.alloc (.cells #[.int .i64 (r.p : Int), .int .i64 ((r.g : Int) + 1), .slice none 0 0, .slice none 0 0] 55)).heap.size; rw [World.size_alloc]; omega)
  have HOB := Lib.hid (own_blk h1.P.lw h1.heap (by decide))
  have HCE := Lib.hid hce
  have HKA := Lib.hid hbA
  have H := Lib.hid h1
  have HB1 := Lib.hid hB1
  clear h h1 hA hce hbA hE hoa hB1 hg
  go_enter Tryz.func60, Tryz.ntmps60
  go_wp2_with fail
  rw [← hw1]
  clear hw1 d4 f4 hq ew
  refine wp_region_held_drew (S := fun _ => True) (by kernel_rfl) trivial (fun _ => ?_)
  refine wpAnyH_take (i := 0) (v := ?_) rfl (by kernel_rfl) (by kernel_rfl) (by kernel_rfl) (fun _ _ _ h => h) (Or.inl ⟨by kernel_rfl, ?_⟩) (by trivial) ?_
  rotate_left
  ·(intro w hSw; (try dsimp only at hSw); go_simp); (try with_reducible rfl)
  try simp only [Act.put, laS]
  refine wpAnyH_take (i := 1) (v := ?_) rfl (by kernel_rfl) (by kernel_rfl) (by kernel_rfl) (fun _ _ _ h => h) (Or.inl ⟨by kernel_rfl, ?_⟩) (by trivial) ?_
  rotate_left
  ·(intro w hSw; (try dsimp only at hSw); go_simp); (try with_reducible rfl)
  try simp only [Act.put, laS]
  refine wpAnyH_take (i := 2) (v := ?_) rfl (by kernel_rfl) (by kernel_rfl) (by kernel_rfl) (fun _ _ _ h => h) (Or.inl ⟨by kernel_rfl, ?_⟩) (by trivial) ?_
  rotate_left
  ·(intro w hSw; (try dsimp only at hSw); go_simp); (try with_reducible rfl)
  try simp only [Act.put, laS]
  refine wpAnyH_take (i := 3) (v := ?_) rfl (by kernel_rfl) (by kernel_rfl) (by kernel_rfl) (fun _ _ _ h => h) (Or.inl ⟨by kernel_rfl, ?_⟩) (by trivial) ?_
  rotate_left
  ·(intro w hSw; (try dsimp only at hSw); go_simp); (try with_reducible rfl)
  try simp only [Act.put, laS]
  refine wpAnyH_take (i := 5) (v := ?_) rfl (by kernel_rfl) (by kernel_rfl) (by kernel_rfl) (fun _ _ _ h => h) (Or.inl ⟨by kernel_rfl, ?_⟩) (by trivial) ?_
  rotate_left
  ·(intro w hSw; (try dsimp only at hSw); go_simp); (try with_reducible rfl)
  try simp only [Act.put, laS]
  refine wpAnyH_take (i := 6) (v := ?_) rfl (by kernel_rfl) (by kernel_rfl) (by kernel_rfl) (fun _ _ _ h => h) (Or.inl ⟨by kernel_rfl, ?_⟩) (by trivial) ?_
  rotate_left
  ·(intro w hSw; (try dsimp only at hSw); go_simp); (try with_reducible rfl)
  try simp only [Act.put, laS]
  refine wpAnyH_take (i := 7) (v := ?_) rfl (by kernel_rfl) (by kernel_rfl) (by kernel_rfl) (fun _ _ _ h => h) (Or.inl ⟨by kernel_rfl, ?_⟩) (by trivial) ?_
  rotate_left
  ·(intro w hSw; (try dsimp only at hSw); go_simp); (try with_reducible rfl)
  try simp only [Act.put, laS]
  refine wpAnyH_take (i := 9) (v := ?_) rfl (by kernel_rfl) (by kernel_rfl) (by kernel_rfl) (fun _ _ _ h => h) (Or.inl ⟨by kernel_rfl, ?_⟩) (by trivial) ?_
  rotate_left
  ·(intro w hSw; (try dsimp only at hSw); go_simp); (try with_reducible rfl)
  try simp only [Act.put, laS]
  refine wpAnyH_take (i := 10) (v := ?_) rfl (by kernel_rfl) (by kernel_rfl) (by kernel_rfl) (fun _ _ _ h => h) (Or.inl ⟨by kernel_rfl, ?_⟩) (by trivial) ?_
  rotate_left
  ·(intro w hSw; (try dsimp only at hSw); go_simp); (try with_reducible rfl)
  try simp only [Act.put, laS]
  refine wpAnyH_take (i := 11) (v := ?_) rfl (by kernel_rfl) (by kernel_rfl) (by kernel_rfl) (fun _ _ _ h => h) (Or.inl ⟨by kernel_rfl, ?_⟩) (by trivial) ?_
  rotate_left
  ·(intro w hSw; (try dsimp only at hSw); go_simp); (try with_reducible rfl)
  try simp only [Act.put, laS]
  refine wpAnyH_ready (rs := [4, 8, 12]) (by kernel_rfl) (by simp) ?_
  refine AllReadyH.cons rfl (fun K hK => ?_) (AllReadyH.cons rfl (fun K hK => ?_) (AllReadyH.cons rfl (fun K hK => ?_) AllReadyH.nil))
  ·go_simp
   refine hK.out _ _ trivial (fun _ => ?_)
   clear hK K
   try simp only [Act.put, laS]
   refine wpAnyH_ready (rs := [8, 12]) (by kernel_rfl) (by simp) ?_
   refine AllReadyH.cons rfl (fun K hK => ?_) (AllReadyH.cons rfl (fun K hK => ?_) AllReadyH.nil)
   ·go_simp
    refine hK.out _ _ trivial (fun _ => ?_)
    clear hK K
    try simp only [Act.put, laS]
    refine wpAnyH_ready (rs := [12]) (by kernel_rfl) (by simp) ?_
    refine AllReadyH.cons rfl (fun K hK => ?_) AllReadyH.nil
    go_simp
    refine hK.out _ _ trivial (fun _ => ?_)
    clear hK K
    try simp only [Act.put, laS]
    refine wpAnyH_take (i := 13) (v := ?_) rfl (by kernel_rfl) (by kernel_rfl) (by kernel_rfl) (fun _ _ _ h => h) (Or.inl ⟨by kernel_rfl, ?_⟩) (by trivial) ?_
    rotate_left
    ·(intro w hSw; (try dsimp only at hSw); go_simp); (try with_reducible rfl)
    try simp only [Act.put, laS]
    refine wpAnyH_ready (rs := [14]) (by kernel_rfl) (by simp) ?_
    refine AllReadyH.cons rfl (fun K hK => ?_) AllReadyH.nil
    go_simp
    refine hK.out _ _ trivial (fun _ => ?_)
    clear hK K
    try simp only [Act.put, laS]
    refine wpAnyH_ready (rs := [15]) (by kernel_rfl) (by simp) ?_
    refine AllReadyH.cons rfl (fun K hK => ?_) AllReadyH.nil
    rw [if_pos (by kernel_rfl)]
    refine wp_append_lies (P := Tryz.prog) _ _ _ 56 rfl B 55 i0 (.agg #[.int .i64 0, .int .i64 0, .slice none 0 0, .slice none 0 0]) 4 64 Tryz.underlying56 hi hz0 hz1 hz2 rfl (by decide) _ (r.lo.length + 1) _ rfl HOA.out ⟨w1.heap.size, 0, none⟩ 1 1 [.int .i64 (r.p : Int), .int .i64 ((r.g : Int) + 1), .slice none 0 0, .slice none 0 0] rfl rfl HCE.out (by simp [Value.oneCell']) (by decide) (by unfold maxLen; omega) (by omega) HSA.out _ rfl ?_
    intro g cap3 w3 hown3 hgrow3 hat3 hlt3
    replace hgrow3 : ((w1.alloc (.cells #[.int .i64 (r.p : Int), .int .i64 ((r.g : Int) + 1), .slice none 0 0, .slice none 0 0] 55)).drew).grownBy w3 (Value.slice (some ⟨gL, 0, none⟩) (r.lo.length + 1) capL).ownBlock := hgrow3
    replace hat3 : (Value.slice (some ⟨gL, 0, none⟩) (r.lo.length + 1) capL).ownBlock = some g ∨ g = ((w1.alloc (.cells #[.int .i64 (r.p : Int), .int .i64 ((r.g : Int) + 1), .slice none 0 0, .slice none 0 0] 55)).drew).heap.size := hat3
    have hsA : ((w1.alloc (.cells #[.int .i64 (r.p : Int), .int .i64 ((r.g : Int) + 1), .slice none 0 0, .slice none 0 0] 55)).drew).heap.size = w1.heap.size + 1 := by show (w1.alloc (.cells #[.int .i64 (r.p : Int), .int .i64 ((r.g : Int) + 1), .slice none 0 0, .slice none 0 0] 55)).heap.size = _; rw [World.size_alloc]
    have hb3 : w3.heap[b]? = some (.cells (ecells s { r with g := r.g + 1 } vl (.slice (some ⟨gL, 0, none⟩) (r.lo.length + 1) capL)) 58 (0, 0)) := (hgrow3.block b (by rw [hsA]; omega) (fun e => HOB.out e.symm)).trans HBA.out
    have c3 : w3.cell? ⟨b, 3, none⟩ = some (.slice (some ⟨gL, 0, none⟩) (r.lo.length + 1) capL) := (cell_of _ _ _ _ hb3 3).trans rfl
    have f3 := frozen_of _ _ _ _ hb3 3
    have hfin := EM.push H.out r.p (r.g + 1) HKA.out hgrow3 (by rw [show ((r.g + 1 : Nat) : Int) = (r.g : Int) + 1 by omega]; exact hown3)
    have hE4 := EM.at2 hfin.1 (r.p + 1) false hp
    have c4 : World.cell? (w3.setCell ⟨b, 3, none⟩ (.slice (some ⟨g, 0, none⟩) (r.lo.length + 1 + 1) cap3)) ⟨b, 1, none⟩ = some (.int .i64 (r.p : Int)) := (hfin.1.cell 1).trans rfl
    have f4 := hfin.1.fz 1
    have c5 : World.cell? (w3.setCell ⟨b, 3, none⟩ (.slice (some ⟨g, 0, none⟩) (r.lo.length + 1 + 1) cap3)) ⟨b, 5, none⟩ = some (.bool r.ia) := (hfin.1.cell 5).trans rfl
    have f5 := hfin.1.fz 5
    have HFN := Lib.hid (And.intro hE4 (((HB1.out.trans hfin.2).setCell (p := ⟨b, 1, none⟩) hge (.int .i64 ((r.p + 1 : Nat) : Int))).setCell (p := ⟨b, 5, none⟩) hge (.bool false)))
    clear hfin hown3 hgrow3 hat3 hb3 hE4
    refine hK.out _ _ trivial (fun _ => ?_)
    clear hK K
    try simp only [Act.put, laS]
    refine wpAnyH_take (i := 16) (v := ?_) rfl (by kernel_rfl) (by kernel_rfl) (by kernel_rfl) (fun _ _ _ h => h) (Or.inl ⟨by kernel_rfl, ?_⟩) (by trivial) ?_
    rotate_left
    ·(intro w hSw; (try dsimp only at hSw); go_simp); (try with_reducible rfl)
    try simp only [Act.put, laS]
    refine wpAnyH_take (i := 17) (v := ?_) rfl (by kernel_rfl) (by kernel_rfl) (by kernel_rfl) (fun _ _ _ h => h) (Or.inl ⟨by kernel_rfl, ?_⟩) (by trivial) ?_
    rotate_left
    ·(intro w hSw; (try dsimp only at hSw); go_simp); (try with_reducible rfl)
    try simp only [Act.put, laS]
    refine wpAnyH_ready (rs := [18]) (by kernel_rfl) (by simp) ?_
    refine AllReadyH.cons rfl (fun K hK => ?_) AllReadyH.nil
    go_simp
    refine hK.out _ _ trivial (fun _ => ?_)
    clear hK K
    try simp only [Act.put, laS]
    refine wpAnyH_done (by kernel_rfl) ?_ _
    generalize World.setCell w3 ⟨b, 3, none⟩ (.slice (some ⟨g, 0, none⟩) (r.lo.length + 1 + 1) cap3) = w4 at *
    go_wp2
    go_ret
    refine ⟨HFN.out.2, rfl, _, _, _, _, HFN.out.1⟩
   ·go_simp
    refine hK.out _ _ trivial (fun _ => ?_)
    clear hK K
    try simp only [Act.put, laS]
    refine wpAnyH_ready (rs := [8]) (by kernel_rfl) (by simp) ?_
    refine AllReadyH.cons rfl (fun K hK => ?_) AllReadyH.nil
    go_simp
    refine hK.out _ _ trivial (fun _ => ?_)
    clear hK K
    try simp only [Act.put, laS]
    refine wpAnyH_take (i := 13) (v := ?_) rfl (by kernel_rfl) (by kernel_rfl) (by kernel_rfl) (fun _ _ _ h => h) (Or.inl ⟨by kernel_rfl, ?_⟩) (by trivial) ?_
    rotate_left
    ·(intro w hSw; (try dsimp only at hSw); go_simp); (try with_reducible rfl)
    try simp only [Act.put, laS]
    refine wpAnyH_ready (rs := [14]) (by kernel_rfl) (by simp) ?_
    refine AllReadyH.cons rfl (fun K hK => ?_) AllReadyH.nil
    go_simp
    refine hK.out _ _ trivial (fun _ => ?_)
    clear hK K
    try simp only [Act.put, laS]
    refine wpAnyH_ready (rs := [15]) (by kernel_rfl) (by simp) ?_
    refine AllReadyH.cons rfl (fun K hK => ?_) AllReadyH.nil
    rw [if_pos (by kernel_rfl)]
    refine wp_append_lies (P := Tryz.prog) _ _ _ 56 rfl B 55 i0 (.agg #[.int .i64 0, .int .i64 0, .slice none 0 0, .slice none 0 0]) 4 64 Tryz.underlying56 hi hz0 hz1 hz2 rfl (by decide) _ (r.lo.length + 1) _ rfl HOA.out ⟨w1.heap.size, 0, none⟩ 1 1 [.int .i64 (r.p : Int), .int .i64 ((r.g : Int) + 1), .slice none 0 0, .slice none 0 0] rfl rfl HCE.out (by simp [Value.oneCell']) (by decide) (by unfold maxLen; omega) (by omega) HSA.out _ rfl ?_
    intro g cap3 w3 hown3 hgrow3 hat3 hlt3
    replace hgrow3 : ((w1.alloc (.cells #[.int .i64 (r.p : Int), .int .i64 ((r.g : Int) + 1), .slice none 0 0, .slice none 0 0] 55)).drew).grownBy w3 (Value.slice (some ⟨gL, 0, none⟩) (r.lo.length + 1) capL).ownBlock := hgrow3
    replace hat3 : (Value.slice (some ⟨gL, 0, none⟩) (r.lo.length + 1) capL).ownBlock = some g ∨ g = ((w1.alloc (.cells #[.int .i64 (r.p : Int), .int .i64 ((r.g : Int) + 1), .slice none 0 0, .slice none 0 0] 55)).drew).heap.size := hat3
    have hsA : ((w1.alloc (.cells #[.int .i64 (r.p : Int), .int .i64 ((r.g : Int) + 1), .slice none 0 0, .slice none 0 0] 55)).drew).heap.size = w1.heap.size + 1 := by show (w1.alloc (.cells #[.int .i64 (r.p : Int), .int .i64 ((r.g : Int) + 1), .slice none 0 0, .slice none 0 0] 55)).heap.size = _; rw [World.size_alloc]
    have hb3 : w3.heap[b]? = some (.cells (ecells s { r with g := r.g + 1 } vl (.slice (some ⟨gL, 0, none⟩) (r.lo.length + 1) capL)) 58 (0, 0)) := (hgrow3.block b (by rw [hsA]; omega) (fun e => HOB.out e.symm)).trans HBA.out
    have c3 : w3.cell? ⟨b, 3, none⟩ = some (.slice (some ⟨gL, 0, none⟩) (r.lo.length + 1) capL) := (cell_of _ _ _ _ hb3 3).trans rfl
    have f3 := frozen_of _ _ _ _ hb3 3
    have hfin := EM.push H.out r.p (r.g + 1) HKA.out hgrow3 (by rw [show ((r.g + 1 : Nat) : Int) = (r.g : Int) + 1 by omega]; exact hown3)
    have hE4 := EM.at2 hfin.1 (r.p + 1) false hp
    have c4 : World.cell? (w3.setCell ⟨b, 3, none⟩ (.slice (some ⟨g, 0, none⟩) (r.lo.length + 1 + 1) cap3)) ⟨b, 1, none⟩ = some (.int .i64 (r.p : Int)) := (hfin.1.cell 1).trans rfl
    have f4 := hfin.1.fz 1
    have c5 : World.cell? (w3.setCell ⟨b, 3, none⟩ (.slice (some ⟨g, 0, none⟩) (r.lo.length + 1 + 1) cap3)) ⟨b, 5, none⟩ = some (.bool r.ia) := (hfin.1.cell 5).trans rfl
    have f5 := hfin.1.fz 5
    have HFN := Lib.hid (And.intro hE4 (((HB1.out.trans hfin.2).setCell (p := ⟨b, 1, none⟩) hge (.int .i64 ((r.p + 1 : Nat) : Int))).setCell (p := ⟨b, 5, none⟩) hge (.bool false)))
    clear hfin hown3 hgrow3 hat3 hb3 hE4
    refine hK.out _ _ trivial (fun _ => ?_)
    clear hK K
    try simp only [Act.put, laS]
    refine wpAnyH_take (i := 16) (v := ?_) rfl (by kernel_rfl) (by kernel_rfl) (by kernel_rfl) (fun _ _ _ h => h) (Or.inl ⟨by kernel_rfl, ?_⟩) (by trivial) ?_
    rotate_left
    ·(intro w hSw; (try dsimp only at hSw); go_simp); (try with_reducible rfl)
    try simp only [Act.put, laS]
    refine wpAnyH_take (i := 17) (v := ?_) rfl (by kernel_rfl) (by kernel_rfl) (by kernel_rfl) (fun _ _ _ h => h) (Or.inl ⟨by kernel_rfl, ?_⟩) (by trivial) ?_
    rotate_left
    ·(intro w hSw; (try dsimp only at hSw); go_simp); (try with_reducible rfl)
    try simp only [Act.put, laS]
    refine wpAnyH_ready (rs := [18]) (by kernel_rfl) (by simp) ?_
    refine AllReadyH.cons rfl (fun K hK => ?_) AllReadyH.nil
    go_simp
    refine hK.out _ _ trivial (fun _ => ?_)
    clear hK K
    try simp only [Act.put, laS]
    refine wpAnyH_done (by kernel_rfl) ?_ _
    generalize World.setCell w3 ⟨b, 3, none⟩ (.slice (some ⟨g, 0, none⟩) (r.lo.length + 1 + 1) cap3) = w4 at *
    go_wp2
    go_ret
    refine ⟨HFN.out.2, rfl, _, _, _, _, HFN.out.1⟩
  ·go_simp
   refine hK.out _ _ trivial (fun _ => ?_)
   clear hK K
   try simp only [Act.put, laS]
   refine wpAnyH_ready (rs := [4, 12]) (by kernel_rfl) (by simp) ?_
   refine AllReadyH.cons rfl (fun K hK => ?_) (AllReadyH.cons rfl (fun K hK => ?_) AllReadyH.nil)
   ·go_simp
    refine hK.out _ _ trivial (fun _ => ?_)
    clear hK K
    try simp only [Act.put, laS]
    refine wpAnyH_ready (rs := [12]) (by kernel_rfl) (by simp) ?_
    refine AllReadyH.cons rfl (fun K hK => ?_) AllReadyH.nil
    go_simp
    refine hK.out _ _ trivial (fun _ => ?_)
    clear hK K
    try simp only [Act.put, laS]
    refine wpAnyH_take (i := 13) (v := ?_) rfl (by kernel_rfl) (by kernel_rfl) (by kernel_rfl) (fun _ _ _ h => h) (Or.inl ⟨by kernel_rfl, ?_⟩) (by trivial) ?_
    rotate_left
    ·(intro w hSw; (try dsimp only at hSw); go_simp); (try with_reducible rfl)
    try simp only [Act.put, laS]
    refine wpAnyH_ready (rs := [14]) (by kernel_rfl) (by simp) ?_
    refine AllReadyH.cons rfl (fun K hK => ?_) AllReadyH.nil
    go_simp
    refine hK.out _ _ trivial (fun _ => ?_)
    clear hK K
    try simp only [Act.put, laS]
    refine wpAnyH_ready (rs := [15]) (by kernel_rfl) (by simp) ?_
    refine AllReadyH.cons rfl (fun K hK => ?_) AllReadyH.nil
    rw [if_pos (by kernel_rfl)]
    refine wp_append_lies (P := Tryz.prog) _ _ _ 56 rfl B 55 i0 (.agg #[.int .i64 0, .int .i64 0, .slice none 0 0, .slice none 0 0]) 4 64 Tryz.underlying56 hi hz0 hz1 hz2 rfl (by decide) _ (r.lo.length + 1) _ rfl HOA.out ⟨w1.heap.size, 0, none⟩ 1 1 [.int .i64 (r.p : Int), .int .i64 ((r.g : Int) + 1), .slice none 0 0, .slice none 0 0] rfl rfl HCE.out (by simp [Value.oneCell']) (by decide) (by unfold maxLen; omega) (by omega) HSA.out _ rfl ?_
    intro g cap3 w3 hown3 hgrow3 hat3 hlt3
    replace hgrow3 : ((w1.alloc (.cells #[.int .i64 (r.p : Int), .int .i64 ((r.g : Int) + 1), .slice none 0 0, .slice none 0 0] 55)).drew).grownBy w3 (Value.slice (some ⟨gL, 0, none⟩) (r.lo.length + 1) capL).ownBlock := hgrow3
    replace hat3 : (Value.slice (some ⟨gL, 0, none⟩) (r.lo.length + 1) capL).ownBlock = some g ∨ g = ((w1.alloc (.cells #[.int .i64 (r.p : Int), .int .i64 ((r.g : Int) + 1), .slice none 0 0, .slice none 0 0] 55)).drew).heap.size := hat3
    have hsA : ((w1.alloc (.cells #[.int .i64 (r.p : Int), .int .i64 ((r.g : Int) + 1), .slice none 0 0, .slice none 0 0] 55)).drew).heap.size = w1.heap.size + 1 := by show (w1.alloc (.cells #[.int .i64 (r.p : Int), .int .i64 ((r.g : Int) + 1), .slice none 0 0, .slice none 0 0] 55)).heap.size = _; rw [World.size_alloc]
    have hb3 : w3.heap[b]? = some (.cells (ecells s { r with g := r.g + 1 } vl (.slice (some ⟨gL, 0, none⟩) (r.lo.length + 1) capL)) 58 (0, 0)) := (hgrow3.block b (by rw [hsA]; omega) (fun e => HOB.out e.symm)).trans HBA.out
    have c3 : w3.cell? ⟨b, 3, none⟩ = some (.slice (some ⟨gL, 0, none⟩) (r.lo.length + 1) capL) := (cell_of _ _ _ _ hb3 3).trans rfl
    have f3 := frozen_of _ _ _ _ hb3 3
    have hfin := EM.push H.out r.p (r.g + 1) HKA.out hgrow3 (by rw [show ((r.g + 1 : Nat) : Int) = (r.g : Int) + 1 by omega]; exact hown3)
    have hE4 := EM.at2 hfin.1 (r.p + 1) false hp
    have c4 : World.cell? (w3.setCell ⟨b, 3, none⟩ (.slice (some ⟨g, 0, none⟩) (r.lo.length + 1 + 1) cap3)) ⟨b, 1, none⟩ = some (.int .i64 (r.p : Int)) := (hfin.1.cell 1).trans rfl
    have f4 := hfin.1.fz 1
    have c5 : World.cell? (w3.setCell ⟨b, 3, none⟩ (.slice (some ⟨g, 0, none⟩) (r.lo.length + 1 + 1) cap3)) ⟨b, 5, none⟩ = some (.bool r.ia) := (hfin.1.cell 5).trans rfl
    have f5 := hfin.1.fz 5
    have HFN := Lib.hid (And.intro hE4 (((HB1.out.trans hfin.2).setCell (p := ⟨b, 1, none⟩) hge (.int .i64 ((r.p + 1 : Nat) : Int))).setCell (p := ⟨b, 5, none⟩) hge (.bool false)))
    clear hfin hown3 hgrow3 hat3 hb3 hE4
    refine hK.out _ _ trivial (fun _ => ?_)
    clear hK K
    try simp only [Act.put, laS]
    refine wpAnyH_take (i := 16) (v := ?_) rfl (by kernel_rfl) (by kernel_rfl) (by kernel_rfl) (fun _ _ _ h => h) (Or.inl ⟨by kernel_rfl, ?_⟩) (by trivial) ?_
    rotate_left
    ·(intro w hSw; (try dsimp only at hSw); go_simp); (try with_reducible rfl)
    try simp only [Act.put, laS]
    refine wpAnyH_take (i := 17) (v := ?_) rfl (by kernel_rfl) (by kernel_rfl) (by kernel_rfl) (fun _ _ _ h => h) (Or.inl ⟨by kernel_rfl, ?_⟩) (by trivial) ?_
    rotate_left
    ·(intro w hSw; (try dsimp only at hSw); go_simp); (try with_reducible rfl)
    try simp only [Act.put, laS]
    refine wpAnyH_ready (rs := [18]) (by kernel_rfl) (by simp) ?_
    refine AllReadyH.cons rfl (fun K hK => ?_) AllReadyH.nil
    go_simp
    refine hK.out _ _ trivial (fun _ => ?_)
    clear hK K
    try simp only [Act.put, laS]
    refine wpAnyH_done (by kernel_rfl) ?_ _
    generalize World.setCell w3 ⟨b, 3, none⟩ (.slice (some ⟨g, 0, none⟩) (r.lo.length + 1 + 1) cap3) = w4 at *
    go_wp2
    go_ret
    refine ⟨HFN.out.2, rfl, _, _, _, _, HFN.out.1⟩
   ·go_simp
    refine hK.out _ _ trivial (fun _ => ?_)
    clear hK K
    try simp only [Act.put, laS]
    refine wpAnyH_take (i := 13) (v := ?_) rfl (by kernel_rfl) (by kernel_rfl) (by kernel_rfl) (fun _ _ _ h => h) (Or.inl ⟨by kernel_rfl, ?_⟩) (by trivial) ?_
    rotate_left
    ·(intro w hSw; (try dsimp only at hSw); go_simp); (try with_reducible rfl)
    try simp only [Act.put, laS]
    refine wpAnyH_ready (rs := [4, 14]) (by kernel_rfl) (by simp) ?_
    refine AllReadyH.cons rfl (fun K hK => ?_) (AllReadyH.cons rfl (fun K hK => ?_) AllReadyH.nil)
    ·go_simp
     refine hK.out _ _ trivial (fun _ => ?_)
     clear hK K
     try simp only [Act.put, laS]
     refine wpAnyH_ready (rs := [14]) (by kernel_rfl) (by simp) ?_
     refine AllReadyH.cons rfl (fun K hK => ?_) AllReadyH.nil
     go_simp
     refine hK.out _ _ trivial (fun _ => ?_)
     clear hK K
     try simp only [Act.put, laS]
     refine wpAnyH_ready (rs := [15]) (by kernel_rfl) (by simp) ?_
     refine AllReadyH.cons rfl (fun K hK => ?_) AllReadyH.nil
     rw [if_pos (by kernel_rfl)]
     refine wp_append_lies (P := Tryz.prog) _ _ _ 56 rfl B 55 i0 (.agg #[.int .i64 0, .int .i64 0, .slice none 0 0, .slice none 0 0]) 4 64 Tryz.underlying56 hi hz0 hz1 hz2 rfl (by decide) _ (r.lo.length + 1) _ rfl HOA.out ⟨w1.heap.size, 0, none⟩ 1 1 [.int .i64 (r.p : Int), .int .i64 ((r.g : Int) + 1), .slice none 0 0, .slice none 0 0] rfl rfl HCE.out (by simp [Value.oneCell']) (by decide) (by unfold maxLen; omega) (by omega) HSA.out _ rfl ?_
     intro g cap3 w3 hown3 hgrow3 hat3 hlt3
     replace hgrow3 : ((w1.alloc (.cells #[.int .i64 (r.p : Int), .int .i64 ((r.g : Int) + 1), .slice none 0 0, .slice none 0 0] 55)).drew).grownBy w3 (Value.slice (some ⟨gL, 0, none⟩) (r.lo.length + 1) capL).ownBlock := hgrow3
     replace hat3 : (Value.slice (some ⟨gL, 0, none⟩) (r.lo.length + 1) capL).ownBlock = some g ∨ g = ((w1.alloc (.cells #[.int .i64 (r.p : Int), .int .i64 ((r.g : Int) + 1), .slice none 0 0, .slice none 0 0] 55)).drew).heap.size := hat3
     have hsA : ((w1.alloc (.cells #[.int .i64 (r.p : Int), .int .i64 ((r.g : Int) + 1), .slice none 0 0, .slice none 0 0] 55)).drew).heap.size = w1.heap.size + 1 := by show (w1.alloc (.cells #[.int .i64 (r.p : Int), .int .i64 ((r.g : Int) + 1), .slice none 0 0, .slice none 0 0] 55)).heap.size = _; rw [World.size_alloc]
     have hb3 : w3.heap[b]? = some (.cells (ecells s { r with g := r.g + 1 } vl (.slice (some ⟨gL, 0, none⟩) (r.lo.length + 1) capL)) 58 (0, 0)) := (hgrow3.block b (by rw [hsA]; omega) (fun e => HOB.out e.symm)).trans HBA.out
     have c3 : w3.cell? ⟨b, 3, none⟩ = some (.slice (some ⟨gL, 0, none⟩) (r.lo.length + 1) capL) := (cell_of _ _ _ _ hb3 3).trans rfl
     have f3 := frozen_of _ _ _ _ hb3 3
     have hfin := EM.push H.out r.p (r.g + 1) HKA.out hgrow3 (by rw [show ((r.g + 1 : Nat) : Int) = (r.g : Int) + 1 by omega]; exact hown3)
     have hE4 := EM.at2 hfin.1 (r.p + 1) false hp
     have c4 : World.cell? (w3.setCell ⟨b, 3, none⟩ (.slice (some ⟨g, 0, none⟩) (r.lo.length + 1 + 1) cap3)) ⟨b, 1, none⟩ = some (.int .i64 (r.p : Int)) := (hfin.1.cell 1).trans rfl
     have f4 := hfin.1.fz 1
     have c5 : World.cell? (w3.setCell ⟨b, 3, none⟩ (.slice (some ⟨g, 0, none⟩) (r.lo.length + 1 + 1) cap3)) ⟨b, 5, none⟩ = some (.bool r.ia) := (hfin.1.cell 5).trans rfl
     have f5 := hfin.1.fz 5
     have HFN := Lib.hid (And.intro hE4 (((HB1.out.trans hfin.2).setCell (p := ⟨b, 1, none⟩) hge (.int .i64 ((r.p + 1 : Nat) : Int))).setCell (p := ⟨b, 5, none⟩) hge (.bool false)))
     clear hfin hown3 hgrow3 hat3 hb3 hE4
     refine hK.out _ _ trivial (fun _ => ?_)
     clear hK K
     try simp only [Act.put, laS]
     refine wpAnyH_take (i := 16) (v := ?_) rfl (by kernel_rfl) (by kernel_rfl) (by kernel_rfl) (fun _ _ _ h => h) (Or.inl ⟨by kernel_rfl, ?_⟩) (by trivial) ?_
     rotate_left
     ·(intro w hSw; (try dsimp only at hSw); go_simp); (try with_reducible rfl)
     try simp only [Act.put, laS]
     refine wpAnyH_take (i := 17) (v := ?_) rfl (by kernel_rfl) (by kernel_rfl) (by kernel_rfl) (fun _ _ _ h => h) (Or.inl ⟨by kernel_rfl, ?_⟩) (by trivial) ?_
     rotate_left
     ·(intro w hSw; (try dsimp only at hSw); go_simp); (try with_reducible rfl)
     try simp only [Act.put, laS]
     refine wpAnyH_ready (rs := [18]) (by kernel_rfl) (by simp) ?_
     refine AllReadyH.cons rfl (fun K hK => ?_) AllReadyH.nil
     go_simp
     refine hK.out _ _ trivial (fun _ => ?_)
     clear hK K
     try simp only [Act.put, laS]
     refine wpAnyH_done (by kernel_rfl) ?_ _
     generalize World.setCell w3 ⟨b, 3, none⟩ (.slice (some ⟨g, 0, none⟩) (r.lo.length + 1 + 1) cap3) = w4 at *
     go_wp2
     go_ret
     refine ⟨HFN.out.2, rfl, _, _, _, _, HFN.out.1⟩
    ·go_simp
     refine hK.out _ _ trivial (fun _ => ?_)
     clear hK K
     try simp only [Act.put, laS]
     refine wpAnyH_ready (rs := [4]) (by kernel_rfl) (by simp) ?_
     refine AllReadyH.cons rfl (fun K hK => ?_) AllReadyH.nil
     go_simp
     refine hK.out _ _ trivial (fun _ => ?_)
     clear hK K
     try simp only [Act.put, laS]
     refine wpAnyH_ready (rs := [15]) (by kernel_rfl) (by simp) ?_
     refine AllReadyH.cons rfl (fun K hK => ?_) AllReadyH.nil
     rw [if_pos (by kernel_rfl)]
     refine wp_append_lies (P := Tryz.prog) _ _ _ 56 rfl B 55 i0 (.agg #[.int .i64 0, .int .i64 0, .slice none 0 0, .slice none 0 0]) 4 64 Tryz.underlying56 hi hz0 hz1 hz2 rfl (by decide) _ (r.lo.length + 1) _ rfl HOA.out ⟨w1.heap.size, 0, none⟩ 1 1 [.int .i64 (r.p : Int), .int .i64 ((r.g : Int) + 1), .slice none 0 0, .slice none 0 0] rfl rfl HCE.out (by simp [Value.oneCell']) (by decide) (by unfold maxLen; omega) (by omega) HSA.out _ rfl ?_
     intro g cap3 w3 hown3 hgrow3 hat3 hlt3
     replace hgrow3 : ((w1.alloc (.cells #[.int .i64 (r.p : Int), .int .i64 ((r.g : Int) + 1), .slice none 0 0, .slice none 0 0] 55)).drew).grownBy w3 (Value.slice (some ⟨gL, 0, none⟩) (r.lo.length + 1) capL).ownBlock := hgrow3
     replace hat3 : (Value.slice (some ⟨gL, 0, none⟩) (r.lo.length + 1) capL).ownBlock = some g ∨ g = ((w1.alloc (.cells #[.int .i64 (r.p : Int), .int .i64 ((r.g : Int) + 1), .slice none 0 0, .slice none 0 0] 55)).drew).heap.size := hat3
     have hsA : ((w1.alloc (.cells #[.int .i64 (r.p : Int), .int .i64 ((r.g : Int) + 1), .slice none 0 0, .slice none 0 0] 55)).drew).heap.size = w1.heap.size + 1 := by show (w1.alloc (.cells #[.int .i64 (r.p : Int), .int .i64 ((r.g : Int) + 1), .slice none 0 0, .slice none 0 0] 55)).heap.size = _; rw [World.size_alloc]
     have hb3 : w3.heap[b]? = some (.cells (ecells s { r with g := r.g + 1 } vl (.slice (some ⟨gL, 0, none⟩) (r.lo.length + 1) capL)) 58 (0, 0)) := (hgrow3.block b (by rw [hsA]; omega) (fun e => HOB.out e.symm)).trans HBA.out
     have c3 : w3.cell? ⟨b, 3, none⟩ = some (.slice (some ⟨gL, 0, none⟩) (r.lo.length + 1) capL) := (cell_of _ _ _ _ hb3 3).trans rfl
     have f3 := frozen_of _ _ _ _ hb3 3
     have hfin := EM.push H.out r.p (r.g + 1) HKA.out hgrow3 (by rw [show ((r.g + 1 : Nat) : Int) = (r.g : Int) + 1 by omega]; exact hown3)
     have hE4 := EM.at2 hfin.1 (r.p + 1) false hp
     have c4 : World.cell? (w3.setCell ⟨b, 3, none⟩ (.slice (some ⟨g, 0, none⟩) (r.lo.length + 1 + 1) cap3)) ⟨b, 1, none⟩ = some (.int .i64 (r.p : Int)) := (hfin.1.cell 1).trans rfl
     have f4 := hfin.1.fz 1
     have c5 : World.cell? (w3.setCell ⟨b, 3, none⟩ (.slice (some ⟨g, 0, none⟩) (r.lo.length + 1 + 1) cap3)) ⟨b, 5, none⟩ = some (.bool r.ia) := (hfin.1.cell 5).trans rfl
     have f5 := hfin.1.fz 5
     have HFN := Lib.hid (And.intro hE4 (((HB1.out.trans hfin.2).setCell (p := ⟨b, 1, none⟩) hge (.int .i64 ((r.p + 1 : Nat) : Int))).setCell (p := ⟨b, 5, none⟩) hge (.bool false)))
     clear hfin hown3 hgrow3 hat3 hb3 hE4
     refine hK.out _ _ trivial (fun _ => ?_)
     clear hK K
     try simp only [Act.put, laS]
     refine wpAnyH_take (i := 16) (v := ?_) rfl (by kernel_rfl) (by kernel_rfl) (by kernel_rfl) (fun _ _ _ h => h) (Or.inl ⟨by kernel_rfl, ?_⟩) (by trivial) ?_
     rotate_left
     ·(intro w hSw; (try dsimp only at hSw); go_simp); (try with_reducible rfl)
     try simp only [Act.put, laS]
     refine wpAnyH_take (i := 17) (v := ?_) rfl (by kernel_rfl) (by kernel_rfl) (by kernel_rfl) (fun _ _ _ h => h) (Or.inl ⟨by kernel_rfl, ?_⟩) (by trivial) ?_
     rotate_left
     ·(intro w hSw; (try dsimp only at hSw); go_simp); (try with_reducible rfl)
     try simp only [Act.put, laS]
     refine wpAnyH_ready (rs := [18]) (by kernel_rfl) (by simp) ?_
     refine AllReadyH.cons rfl (fun K hK => ?_) AllReadyH.nil
     go_simp
     refine hK.out _ _ trivial (fun _ => ?_)
     clear hK K
     try simp only [Act.put, laS]
     refine wpAnyH_done (by kernel_rfl) ?_ _
     generalize World.setCell w3 ⟨b, 3, none⟩ (.slice (some ⟨g, 0, none⟩) (r.lo.length + 1 + 1) cap3) = w4 at *
     go_wp2
     go_ret
     refine ⟨HFN.out.2, rfl, _, _, _, _, HFN.out.1⟩
  ·go_simp
   refine hK.out _ _ trivial (fun _ => ?_)
   clear hK K
   try simp only [Act.put, laS]
   refine wpAnyH_ready (rs := [4, 8]) (by kernel_rfl) (by simp) ?_
   refine AllReadyH.cons rfl (fun K hK => ?_) (AllReadyH.cons rfl (fun K hK => ?_) AllReadyH.nil)
   ·go_simp
    refine hK.out _ _ trivial (fun _ => ?_)
    clear hK K
    try simp only [Act.put, laS]
    refine wpAnyH_ready (rs := [8]) (by kernel_rfl) (by simp) ?_
    refine AllReadyH.cons rfl (fun K hK => ?_) AllReadyH.nil
    go_simp
    refine hK.out _ _ trivial (fun _ => ?_)
    clear hK K
    try simp only [Act.put, laS]
    refine wpAnyH_take (i := 13) (v := ?_) rfl (by kernel_rfl) (by kernel_rfl) (by kernel_rfl) (fun _ _ _ h => h) (Or.inl ⟨by kernel_rfl, ?_⟩) (by trivial) ?_
    rotate_left
    ·(intro w hSw; (try dsimp only at hSw); go_simp); (try with_reducible rfl)
    try simp only [Act.put, laS]
    refine wpAnyH_ready (rs := [14]) (by kernel_rfl) (by simp) ?_
    refine AllReadyH.cons rfl (fun K hK => ?_) AllReadyH.nil
    go_simp
    refine hK.out _ _ trivial (fun _ => ?_)
    clear hK K
    try simp only [Act.put, laS]
    refine wpAnyH_ready (rs := [15]) (by kernel_rfl) (by simp) ?_
    refine AllReadyH.cons rfl (fun K hK => ?_) AllReadyH.nil
    rw [if_pos (by kernel_rfl)]
    refine wp_append_lies (P := Tryz.prog) _ _ _ 56 rfl B 55 i0 (.agg #[.int .i64 0, .int .i64 0, .slice none 0 0, .slice none 0 0]) 4 64 Tryz.underlying56 hi hz0 hz1 hz2 rfl (by decide) _ (r.lo.length + 1) _ rfl HOA.out ⟨w1.heap.size, 0, none⟩ 1 1 [.int .i64 (r.p : Int), .int .i64 ((r.g : Int) + 1), .slice none 0 0, .slice none 0 0] rfl rfl HCE.out (by simp [Value.oneCell']) (by decide) (by unfold maxLen; omega) (by omega) HSA.out _ rfl ?_
    intro g cap3 w3 hown3 hgrow3 hat3 hlt3
    replace hgrow3 : ((w1.alloc (.cells #[.int .i64 (r.p : Int), .int .i64 ((r.g : Int) + 1), .slice none 0 0, .slice none 0 0] 55)).drew).grownBy w3 (Value.slice (some ⟨gL, 0, none⟩) (r.lo.length + 1) capL).ownBlock := hgrow3
    replace hat3 : (Value.slice (some ⟨gL, 0, none⟩) (r.lo.length + 1) capL).ownBlock = some g ∨ g = ((w1.alloc (.cells #[.int .i64 (r.p : Int), .int .i64 ((r.g : Int) + 1), .slice none 0 0, .slice none 0 0] 55)).drew).heap.size := hat3
    have hsA : ((w1.alloc (.cells #[.int .i64 (r.p : Int), .int .i64 ((r.g : Int) + 1), .slice none 0 0, .slice none 0 0] 55)).drew).heap.size = w1.heap.size + 1 := by show (w1.alloc (.cells #[.int .i64 (r.p : Int), .int .i64 ((r.g : Int) + 1), .slice none 0 0, .slice none 0 0] 55)).heap.size = _; rw [World.size_alloc]
    have hb3 : w3.heap[b]? = some (.cells (ecells s { r with g := r.g + 1 } vl (.slice (some ⟨gL, 0, none⟩) (r.lo.length + 1) capL)) 58 (0, 0)) := (hgrow3.block b (by rw [hsA]; omega) (fun e => HOB.out e.symm)).trans HBA.out
    have c3 : w3.cell? ⟨b, 3, none⟩ = some (.slice (some ⟨gL, 0, none⟩) (r.lo.length + 1) capL) := (cell_of _ _ _ _ hb3 3).trans rfl
    have f3 := frozen_of _ _ _ _ hb3 3
    have hfin := EM.push H.out r.p (r.g + 1) HKA.out hgrow3 (by rw [show ((r.g + 1 : Nat) : Int) = (r.g : Int) + 1 by omega]; exact hown3)
    have hE4 := EM.at2 hfin.1 (r.p + 1) false hp
    have c4 : World.cell? (w3.setCell ⟨b, 3, none⟩ (.slice (some ⟨g, 0, none⟩) (r.lo.length + 1 + 1) cap3)) ⟨b, 1, none⟩ = some (.int .i64 (r.p : Int)) := (hfin.1.cell 1).trans rfl
    have f4 := hfin.1.fz 1
    have c5 : World.cell? (w3.setCell ⟨b, 3, none⟩ (.slice (some ⟨g, 0, none⟩) (r.lo.length + 1 + 1) cap3)) ⟨b, 5, none⟩ = some (.bool r.ia) := (hfin.1.cell 5).trans rfl
    have f5 := hfin.1.fz 5
    have HFN := Lib.hid (And.intro hE4 (((HB1.out.trans hfin.2).setCell (p := ⟨b, 1, none⟩) hge (.int .i64 ((r.p + 1 : Nat) : Int))).setCell (p := ⟨b, 5, none⟩) hge (.bool false)))
    clear hfin hown3 hgrow3 hat3 hb3 hE4
    refine hK.out _ _ trivial (fun _ => ?_)
    clear hK K
    try simp only [Act.put, laS]
    refine wpAnyH_take (i := 16) (v := ?_) rfl (by kernel_rfl) (by kernel_rfl) (by kernel_rfl) (fun _ _ _ h => h) (Or.inl ⟨by kernel_rfl, ?_⟩) (by trivial) ?_
    rotate_left
    ·(intro w hSw; (try dsimp only at hSw); go_simp); (try with_reducible rfl)
    try simp only [Act.put, laS]
    refine wpAnyH_take (i := 17) (v := ?_) rfl (by kernel_rfl) (by kernel_rfl) (by kernel_rfl) (fun _ _ _ h => h) (Or.inl ⟨by kernel_rfl, ?_⟩) (by trivial) ?_
    rotate_left
    ·(intro w hSw; (try dsimp only at hSw); go_simp); (try with_reducible rfl)
    try simp only [Act.put, laS]
    refine wpAnyH_ready (rs := [18]) (by kernel_rfl) (by simp) ?_
    refine AllReadyH.cons rfl (fun K hK => ?_) AllReadyH.nil
    go_simp
    refine hK.out _ _ trivial (fun _ => ?_)
    clear hK K
    try simp only [Act.put, laS]
    refine wpAnyH_done (by kernel_rfl) ?_ _
    generalize World.setCell w3 ⟨b, 3, none⟩ (.slice (some ⟨g, 0, none⟩) (r.lo.length + 1 + 1) cap3) = w4 at *
    go_wp2
    go_ret
    refine ⟨HFN.out.2, rfl, _, _, _, _, HFN.out.1⟩
   ·go_simp
    refine hK.out _ _ trivial (fun _ => ?_)
    clear hK K
    try simp only [Act.put, laS]
    refine wpAnyH_take (i := 13) (v := ?_) rfl (by kernel_rfl) (by kernel_rfl) (by kernel_rfl) (fun _ _ _ h => h) (Or.inl ⟨by kernel_rfl, ?_⟩) (by trivial) ?_
    rotate_left
    ·(intro w hSw; (try dsimp only at hSw); go_simp); (try with_reducible rfl)
    try simp only [Act.put, laS]
    refine wpAnyH_ready (rs := [4, 14]) (by kernel_rfl) (by simp) ?_
    refine AllReadyH.cons rfl (fun K hK => ?_) (AllReadyH.cons rfl (fun K hK => ?_) AllReadyH.nil)
    ·go_simp
     refine hK.out _ _ trivial (fun _ => ?_)
     clear hK K
     try simp only [Act.put, laS]
     refine wpAnyH_ready (rs := [14]) (by kernel_rfl) (by simp) ?_
     refine AllReadyH.cons rfl (fun K hK => ?_) AllReadyH.nil
     go_simp
     refine hK.out _ _ trivial (fun _ => ?_)
     clear hK K
     try simp only [Act.put, laS]
     refine wpAnyH_ready (rs := [15]) (by kernel_rfl) (by simp) ?_
     refine AllReadyH.cons rfl (fun K hK => ?_) AllReadyH.nil
     rw [if_pos (by kernel_rfl)]
     refine wp_append_lies (P := Tryz.prog) _ _ _ 56 rfl B 55 i0 (.agg #[.int .i64 0, .int .i64 0, .slice none 0 0, .slice none 0 0]) 4 64 Tryz.underlying56 hi hz0 hz1 hz2 rfl (by decide) _ (r.lo.length + 1) _ rfl HOA.out ⟨w1.heap.size, 0, none⟩ 1 1 [.int .i64 (r.p : Int), .int .i64 ((r.g : Int) + 1), .slice none 0 0, .slice none 0 0] rfl rfl HCE.out (by simp [Value.oneCell']) (by decide) (by unfold maxLen; omega) (by omega) HSA.out _ rfl ?_
     intro g cap3 w3 hown3 hgrow3 hat3 hlt3
     replace hgrow3 : ((w1.alloc (.cells #[.int .i64 (r.p : Int), .int .i64 ((r.g : Int) + 1), .slice none 0 0, .slice none 0 0] 55)).drew).grownBy w3 (Value.slice (some ⟨gL, 0, none⟩) (r.lo.length + 1) capL).ownBlock := hgrow3
     replace hat3 : (Value.slice (some ⟨gL, 0, none⟩) (r.lo.length + 1) capL).ownBlock = some g ∨ g = ((w1.alloc (.cells #[.int .i64 (r.p : Int), .int .i64 ((r.g : Int) + 1), .slice none 0 0, .slice none 0 0] 55)).drew).heap.size := hat3
     have hsA : ((w1.alloc (.cells #[.int .i64 (r.p : Int), .int .i64 ((r.g : Int) + 1), .slice none 0 0, .slice none 0 0] 55)).drew).heap.size = w1.heap.size + 1 := by show (w1.alloc (.cells #[.int .i64 (r.p : Int), .int .i64 ((r.g : Int) + 1), .slice none 0 0, .slice none 0 0] 55)).heap.size = _; rw [World.size_alloc]
     have hb3 : w3.heap[b]? = some (.cells (ecells s { r with g := r.g + 1 } vl (.slice (some ⟨gL, 0, none⟩) (r.lo.length + 1) capL)) 58 (0, 0)) := (hgrow3.block b (by rw [hsA]; omega) (fun e => HOB.out e.symm)).trans HBA.out
     have c3 : w3.cell? ⟨b, 3, none⟩ = some (.slice (some ⟨gL, 0, none⟩) (r.lo.length + 1) capL) := (cell_of _ _ _ _ hb3 3).trans rfl
     have f3 := frozen_of _ _ _ _ hb3 3
     have hfin := EM.push H.out r.p (r.g + 1) HKA.out hgrow3 (by rw [show ((r.g + 1 : Nat) : Int) = (r.g : Int) + 1 by omega]; exact hown3)
     have hE4 := EM.at2 hfin.1 (r.p + 1) false hp
     have c4 : World.cell? (w3.setCell ⟨b, 3, none⟩ (.slice (some ⟨g, 0, none⟩) (r.lo.length + 1 + 1) cap3)) ⟨b, 1, none⟩ = some (.int .i64 (r.p : Int)) := (hfin.1.cell 1).trans rfl
     have f4 := hfin.1.fz 1
     have c5 : World.cell? (w3.setCell ⟨b, 3, none⟩ (.slice (some ⟨g, 0, none⟩) (r.lo.length + 1 + 1) cap3)) ⟨b, 5, none⟩ = some (.bool r.ia) := (hfin.1.cell 5).trans rfl
     have f5 := hfin.1.fz 5
     have HFN := Lib.hid (And.intro hE4 (((HB1.out.trans hfin.2).setCell (p := ⟨b, 1, none⟩) hge (.int .i64 ((r.p + 1 : Nat) : Int))).setCell (p := ⟨b, 5, none⟩) hge (.bool false)))
     clear hfin hown3 hgrow3 hat3 hb3 hE4
     refine hK.out _ _ trivial (fun _ => ?_)
     clear hK K
     try simp only [Act.put, laS]
     refine wpAnyH_take (i := 16) (v := ?_) rfl (by kernel_rfl) (by kernel_rfl) (by kernel_rfl) (fun _ _ _ h => h) (Or.inl ⟨by kernel_rfl, ?_⟩) (by trivial) ?_
     rotate_left
     ·(intro w hSw; (try dsimp only at hSw); go_simp); (try with_reducible rfl)
     try simp only [Act.put, laS]
     refine wpAnyH_take (i := 17) (v := ?_) rfl (by kernel_rfl) (by kernel_rfl) (by kernel_rfl) (fun _ _ _ h => h) (Or.inl ⟨by kernel_rfl, ?_⟩) (by trivial) ?_
     rotate_left
     ·(intro w hSw; (try dsimp only at hSw); go_simp); (try with_reducible rfl)
     try simp only [Act.put, laS]
     refine wpAnyH_ready (rs := [18]) (by kernel_rfl) (by simp) ?_
     refine AllReadyH.cons rfl (fun K hK => ?_) AllReadyH.nil
     go_simp
     refine hK.out _ _ trivial (fun _ => ?_)
     clear hK K
     try simp only [Act.put, laS]
     refine wpAnyH_done (by kernel_rfl) ?_ _
     generalize World.setCell w3 ⟨b, 3, none⟩ (.slice (some ⟨g, 0, none⟩) (r.lo.length + 1 + 1) cap3) = w4 at *
     go_wp2
     go_ret
     refine ⟨HFN.out.2, rfl, _, _, _, _, HFN.out.1⟩
    ·go_simp
     refine hK.out _ _ trivial (fun _ => ?_)
     clear hK K
     try simp only [Act.put, laS]
     refine wpAnyH_ready (rs := [4]) (by kernel_rfl) (by simp) ?_
     refine AllReadyH.cons rfl (fun K hK => ?_) AllReadyH.nil
     go_simp
     refine hK.out _ _ trivial (fun _ => ?_)
     clear hK K
     try simp only [Act.put, laS]
     refine wpAnyH_ready (rs := [15]) (by kernel_rfl) (by simp) ?_
     refine AllReadyH.cons rfl (fun K hK => ?_) AllReadyH.nil
     rw [if_pos (by kernel_rfl)]
     refine wp_append_lies (P := Tryz.prog) _ _ _ 56 rfl B 55 i0 (.agg #[.int .i64 0, .int .i64 0, .slice none 0 0, .slice none 0 0]) 4 64 Tryz.underlying56 hi hz0 hz1 hz2 rfl (by decide) _ (r.lo.length + 1) _ rfl HOA.out ⟨w1.heap.size, 0, none⟩ 1 1 [.int .i64 (r.p : Int), .int .i64 ((r.g : Int) + 1), .slice none 0 0, .slice none 0 0] rfl rfl HCE.out (by simp [Value.oneCell']) (by decide) (by unfold maxLen; omega) (by omega) HSA.out _ rfl ?_
     intro g cap3 w3 hown3 hgrow3 hat3 hlt3
     replace hgrow3 : ((w1.alloc (.cells #[.int .i64 (r.p : Int), .int .i64 ((r.g : Int) + 1), .slice none 0 0, .slice none 0 0] 55)).drew).grownBy w3 (Value.slice (some ⟨gL, 0, none⟩) (r.lo.length + 1) capL).ownBlock := hgrow3
     replace hat3 : (Value.slice (some ⟨gL, 0, none⟩) (r.lo.length + 1) capL).ownBlock = some g ∨ g = ((w1.alloc (.cells #[.int .i64 (r.p : Int), .int .i64 ((r.g : Int) + 1), .slice none 0 0, .slice none 0 0] 55)).drew).heap.size := hat3
     have hsA : ((w1.alloc (.cells #[.int .i64 (r.p : Int), .int .i64 ((r.g : Int) + 1), .slice none 0 0, .slice none 0 0] 55)).drew).heap.size = w1.heap.size + 1 := by show (w1.alloc (.cells #[.int .i64 (r.p : Int), .int .i64 ((r.g : Int) + 1), .slice none 0 0, .slice none 0 0] 55)).heap.size = _; rw [World.size_alloc]
     have hb3 : w3.heap[b]? = some (.cells (ecells s { r with g := r.g + 1 } vl (.slice (some ⟨gL, 0, none⟩) (r.lo.length + 1) capL)) 58 (0, 0)) := (hgrow3.block b (by rw [hsA]; omega) (fun e => HOB.out e.symm)).trans HBA.out
     have c3 : w3.cell? ⟨b, 3, none⟩ = some (.slice (some ⟨gL, 0, none⟩) (r.lo.length + 1) capL) := (cell_of _ _ _ _ hb3 3).trans rfl
     have f3 := frozen_of _ _ _ _ hb3 3
     have hfin := EM.push H.out r.p (r.g + 1) HKA.out hgrow3 (by rw [show ((r.g + 1 : Nat) : Int) = (r.g : Int) + 1 by omega]; exact hown3)
     have hE4 := EM.at2 hfin.1 (r.p + 1) false hp
     have c4 : World.cell? (w3.setCell ⟨b, 3, none⟩ (.slice (some ⟨g, 0, none⟩) (r.lo.length + 1 + 1) cap3)) ⟨b, 1, none⟩ = some (.int .i64 (r.p : Int)) := (hfin.1.cell 1).trans rfl
     have f4 := hfin.1.fz 1
     have c5 : World.cell? (w3.setCell ⟨b, 3, none⟩ (.slice (some ⟨g, 0, none⟩) (r.lo.length + 1 + 1) cap3)) ⟨b, 5, none⟩ = some (.bool r.ia) := (hfin.1.cell 5).trans rfl
     have f5 := hfin.1.fz 5
     have HFN := Lib.hid (And.intro hE4 (((HB1.out.trans hfin.2).setCell (p := ⟨b, 1, none⟩) hge (.int .i64 ((r.p + 1 : Nat) : Int))).setCell (p := ⟨b, 5, none⟩) hge (.bool false)))
     clear hfin hown3 hgrow3 hat3 hb3 hE4
     refine hK.out _ _ trivial (fun _ => ?_)
     clear hK K
     try simp only [Act.put, laS]
     refine wpAnyH_take (i := 16) (v := ?_) rfl (by kernel_rfl) (by kernel_rfl) (by kernel_rfl) (fun _ _ _ h => h) (Or.inl ⟨by kernel_rfl, ?_⟩) (by trivial) ?_
     rotate_left
     ·(intro w hSw; (try dsimp only at hSw); go_simp); (try with_reducible rfl)
     try simp only [Act.put, laS]
     refine wpAnyH_take (i := 17) (v := ?_) rfl (by kernel_rfl) (by kernel_rfl) (by kernel_rfl) (fun _ _ _ h => h) (Or.inl ⟨by kernel_rfl, ?_⟩) (by trivial) ?_
     rotate_left
     ·(intro w hSw; (try dsimp only at hSw); go_simp); (try with_reducible rfl)
     try simp only [Act.put, laS]
     refine wpAnyH_ready (rs := [18]) (by kernel_rfl) (by simp) ?_
     refine AllReadyH.cons rfl (fun K hK => ?_) AllReadyH.nil
     go_simp
     refine hK.out _ _ trivial (fun _ => ?_)
     clear hK K
     try simp only [Act.put, laS]
     refine wpAnyH_done (by kernel_rfl) ?_ _
     generalize World.setCell w3 ⟨b, 3, none⟩ (.slice (some ⟨g, 0, none⟩) (r.lo.length + 1 + 1) cap3) = w4 at *
     go_wp2
     go_ret
     refine ⟨HFN.out.2, rfl, _, _, _, _, HFN.out.1⟩
end
end Go.Proofs.YtdjcgjkbecncaaaGreatDoor
