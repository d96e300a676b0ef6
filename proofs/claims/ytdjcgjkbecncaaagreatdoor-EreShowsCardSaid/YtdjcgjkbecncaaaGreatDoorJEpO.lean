/- ere: endRow. -/
import Derived.Test.YtdjcgjkbecncaaaGreatDoorJEpM
set_option linter.unusedVariables false
set_option linter.unusedSimpArgs false
set_option maxRecDepth 100000
set_option maxHeartbeats 40000000
namespace Go.Proofs.YtdjcgjkbecncaaaGreatDoor
open Go.RowKit
theorem ch1_eq (k : Int) (q : ES × Int) (a : Int) : ∃ l', (ch1 k q a).1 = { q.1 with l := l' } := ⟨_, rfl⟩
theorem chF_eq (k : Int) : ∀ (ps : List Int) (q : ES × Int), ∃ l', (ps.foldl (ch1 k) q).1 = { q.1 with l := l' }
 | [], q => ⟨q.1.l, rfl⟩
 | a :: ps, q => by
  obtain ⟨l1, h1⟩ := ch1_eq k q a
  obtain ⟨l2, h2⟩ := chF_eq k ps (ch1 k q a)
  exact ⟨l2, by rw [List.foldl_cons, h2, h1]⟩
theorem chE_eq (k : Int) (r : ES) (ps : List Int) : ∃ l', (chE k r ps).1 = { r with l := l' } := chF_eq k _ _
theorem row_slice {w : World} {B T sz n : Nat} {v : Value} {xs : List Value} (h : w.ownsRow B T sz v n xs) : ∃ o cap, v = .slice o n cap := by
 rcases h.2 with ⟨e, h0⟩ | ⟨g, cap, cur, e, _⟩
 ·exact ⟨none, 0, by rw [e, h0]⟩
 ·exact ⟨_, cap, e⟩
section
variable {B b mb : Nat} {mo : Obj} {s : List UInt8} {r : ES} {vl vL : Value} {vo : List (Value × Value)} {vt : Value × Value} {w : World}
def ROutE (B b mb : Nat) (mo : Obj) (s : List UInt8) (r : ES) (vl vL : Value) (vo : List (Value × Value)) (vt : Value × Value) (w : World) (e : Ending) (w' : World) : Prop :=
 match endE r with
 | none => e = .returned (.bool false) ∧ EM B b mb mo s r vl vL vo vt w' ∧ Below B w w'
 | some q => e = .returned (.bool true) ∧ (∃ vl' vt', EM B b mb mo s q vl' vL vo vt' w') ∧ Below B w w'
theorem eendRow_c (w : World) (h : EM B b mb mo s r vl vL vo vt w) (hi : r.top.items.length ≤ 200000) (hr : r.top.rows.length ≤ 200000) :
  Calls Tryz.prog 70 #[.pointer (some ⟨b, 0, none⟩)] w (ROutE B b mb mo s r vl vL vo vt w) := by
 obtain ⟨gL, capL, hL, hgB, _, _, hgl, _⟩ := h.P.top
 have hge := h.ge
 have hltb := h.lt
 have HBw := Lib.hid h.Bw
 have HTOP := Lib.hid (etop_c w h hL)
 have HLL := Lib.hid hL
 clear hL
 rcases List.eq_nil_or_concat r.top.items with hz | ⟨l, z, hz⟩
 ·have hE : endE r = none := by unfold endE; rw [if_pos hz]
  unfold ROutE
  rw [hE]
  have H := Lib.hid h
  have HZ := Lib.hid hz
  clear h hE hz hi hr
  go_enter Tryz.func70, Tryz.ntmps70
  go_wp2_with fail
  refine HTOP.out.mono ?_
  rintro e w4 ⟨rfl, nq, rfl⟩
  have bW : Below w.heap.size w (w.drewN nq) := Go.below_drewN (Below.refl _ _) nq
  generalize w.drewN nq = W at *
  have hEW := H.out.below bW
  obtain ⟨v1, v2⟩ := vt
  have ho := (lvs_snoc hEW.P.ls).2.b
  rw [HZ.out] at ho
  obtain ⟨o, cap, hv⟩ := row_slice ho
  simp only [List.length_nil] at hv
  have t3 : W.cell? ⟨gL, r.lo.length * 4 + 3, none⟩ = some v2 := by
   obtain ⟨g', c', e, _, hcell, _⟩ := hEW.P.top
   rw [HLL.out] at e
   cases e
   exact hcell 3 _ rfl
  subst hv
  have HE := Lib.hid (And.intro hEW (bW.mono HBw.out))
  clear hEW ho bW
  go_wp2
  go_ret
  exact ⟨rfl, HE.out.1, HE.out.2⟩
 ·rw [List.concat_eq_append] at hz
  obtain ⟨l', hl'⟩ := chE_eq 4 r (l ++ [z])
  obtain ⟨iv, hiv⟩ : ∃ iv, iv = (chE 4 r (l ++ [z])).2 := ⟨_, rfl⟩
  have hE : endE r = some { r with l := l', top := { r.top with rows := r.top.rows ++ [iv], items := [] } } := by
   unfold endE
   rw [if_neg (by rw [hz]; simp), hz, hl', hiv]
  unfold ROutE
  rw [hE]
  obtain ⟨i0, hi0, hz0, hz1, hz2⟩ := info_parts infoI
  have hll : l.length ≤ 200000 := by rw [hz] at hi; simp at hi; omega
  have H := Lib.hid h
  have HZ := Lib.hid hz
  have HCL := Lib.hid hl'
  have HIV := Lib.hid hiv
  clear h hE hz hi hl' hiv
  go_enter Tryz.func70, Tryz.ntmps70
  go_wp2_with fail
  refine HTOP.out.mono ?_
  rintro e w4 ⟨rfl, nq, rfl⟩
  have bW : Below w.heap.size w (w.drewN nq) := Go.below_drewN (Below.refl _ _) nq
  generalize w.drewN nq = W at *
  have hEW := H.out.below bW
  obtain ⟨v1, v2⟩ := vt
  have ho := (lvs_snoc hEW.P.ls).2.b
  rw [HZ.out, show (l ++ [z]).length = l.length + 1 by simp] at ho
  obtain ⟨gi, capi, hv2, hci, hcm, hint, hgI⟩ := ints_of ho (by simp)
  simp only at hv2
  subst hv2
  have t3 : W.cell? ⟨gL, r.lo.length * 4 + 3, none⟩ = some (.slice (some ⟨gi, 0, none⟩) (l.length + 1) capi) := by
   obtain ⟨g', c', e, _, hcell, _⟩ := hEW.P.top
   rw [HLL.out] at e
   cases e
   exact hcell 3 _ rfl
  have t2 : W.cell? ⟨gL, r.lo.length * 4 + 2, none⟩ = some v1 := by
   obtain ⟨g', c', e, _, hcell, _⟩ := hEW.P.top
   rw [HLL.out] at e
   cases e
   exact hcell 2 _ rfl
  have hch := fun W' (hB : Below W.heap.size W W') => echain_c 4 l z gi capi W' (hEW.below hB) hci (by omega) hcm
   (by obtain ⟨c, hc⟩ := hgI; have hl := (Array.getElem?_eq_some_iff.1 hc).1; exact hint.hold (p := gi) ⟨hB.block gi hl, hB.block gi hl⟩)
   (by obtain ⟨c, hc⟩ := hgI; exact ⟨c, (hB.block gi (Array.getElem?_eq_some_iff.1 hc).1).trans hc⟩)
  rw [HCL.out, ← HIV.out] at hch
  have HBB := Lib.hid ((bW.mono HBw.out).drew)
  obtain ⟨m, hm⟩ : ∃ m, m = l.length := ⟨_, rfl⟩
  have HM := Lib.hid hm
  rw [← hm] at t3 hll hci hch
  have HCH := Lib.hid hch
  have hz9 : ((m : Int) + 1 == 0) = false := by rw [beq_eq_false_iff_ne]; omega
  clear hEW hm hch ho hint hgI bW
  go_wp2_with fail
  refine wp_region_held_drew (S := fun _ => True) (by kernel_rfl) trivial (fun _ => ?_)
  refine wpAnyH_take (i := 0) (v := ?_) rfl (by kernel_rfl) (by kernel_rfl) (by kernel_rfl) (fun _ _ _ h => h) (Or.inl ⟨by kernel_rfl, ?_⟩) (by trivial) ?_
  rotate_left
  ·(intro w hSw; (try dsimp only at hSw); go_simp); (try with_reducible rfl)
  try simp only [Act.put, laS]
  refine wpAnyH_take (i := 1) (v := ?_) rfl (by kernel_rfl) (by kernel_rfl) (by kernel_rfl) (fun _ _ _ h => h) (Or.inl ⟨by kernel_rfl, ?_⟩) (by trivial) ?_
  rotate_left
  ·(intro w hSw; (try dsimp only at hSw); go_simp); (try with_reducible rfl)
  try simp only [Act.put, laS]
  refine wpAnyH_take (i := 2) (v := ?_) rfl (by kernel_rfl) (by kernel_rfl) (by kernel_rfl) (fun _ _ _ h => h) (Or.inl ⟨by kernel_rfl, ?_⟩) (by trivial) ?_
  rotate_left
  ·(intro w hSw; (try dsimp only at hSw); go_simp); (try with_reducible rfl)
  try simp only [Act.put, laS]
  refine wpAnyH_take (i := 3) (v := ?_) rfl (by kernel_rfl) (by kernel_rfl) (by kernel_rfl) (fun _ _ _ h => h) (Or.inl ⟨by kernel_rfl, ?_⟩) (by trivial) ?_
  rotate_left
  ·(intro w hSw; (try dsimp only at hSw); go_simp); (try with_reducible rfl)
  try simp only [Act.put, laS]
  refine wpAnyH_take (i := 5) (v := ?_) rfl (by kernel_rfl) (by kernel_rfl) (by kernel_rfl) (fun _ _ _ h => h) (Or.inl ⟨by kernel_rfl, ?_⟩) (by trivial) ?_
  rotate_left
  ·(intro w hSw; (try dsimp only at hSw); go_simp); (try with_reducible rfl)
  try simp only [Act.put, laS]
  refine wpAnyH_take (i := 6) (v := ?_) rfl (by kernel_rfl) (by kernel_rfl) (by kernel_rfl) (fun _ _ _ h => h) (Or.inl ⟨by kernel_rfl, ?_⟩) (by trivial) ?_
  rotate_left
  ·(intro w hSw; (try dsimp only at hSw); go_simp); (try with_reducible rfl)
  try simp only [Act.put, laS]
  refine wpAnyH_take (i := 7) (v := ?_) rfl (by kernel_rfl) (by kernel_rfl) (by kernel_rfl) (fun _ _ _ h => h) (Or.inl ⟨by kernel_rfl, ?_⟩) (by trivial) ?_
  rotate_left
  ·(intro w hSw; (try dsimp only at hSw); go_simp); (try with_reducible rfl)
  try simp only [Act.put, laS]
  refine wpAnyH_take (i := 8) (v := ?_) rfl (by kernel_rfl) (by kernel_rfl) (by kernel_rfl) (fun _ _ _ h => h) (Or.inl ⟨by kernel_rfl, ?_⟩) (by trivial) ?_
  rotate_left
  ·(intro w hSw; (try dsimp only at hSw); go_simp); (try with_reducible rfl)
  try simp only [Act.put, laS]
  refine wpAnyH_ready (rs := [4, 9]) (by kernel_rfl) (by simp) ?_
  refine AllReadyH.cons rfl (fun K hK => ?_) (AllReadyH.cons rfl (fun K hK => ?_) AllReadyH.nil)
  ·go_simp
   refine hK.out _ _ trivial (fun _ => ?_)
   clear hK K
   try simp only [Act.put, laS]
   refine wpAnyH_ready (rs := [9]) (by kernel_rfl) (by simp) ?_
   refine AllReadyH.cons rfl (fun K hK => ?_) AllReadyH.nil
   go_simp
   refine hK.out _ _ trivial (fun _ => ?_)
   clear hK K
   try simp only [Act.put, laS]
   refine wpAnyH_ready (rs := [10]) (by kernel_rfl) (by simp) ?_
   refine AllReadyH.cons rfl (fun K hK => ?_) AllReadyH.nil
   go_simp
   refine (HCH.out W.drew ((Below.refl _ W).drew)).mono ?_
   rintro e w5 ⟨rfl, vl5, hE5, hk5⟩
   refine hK.out _ _ trivial (fun _ => ?_)
   clear hK K
   have hE5' := Lib.hid hE5
   have hk5' := Lib.hid hk5
   have t5 : w5.cell? ⟨gL, r.lo.length * 4 + 2, none⟩ = some v1 := by
    obtain ⟨g', c', e, _, hcell, _⟩ := hE5.P.top
    rw [HLL.out] at e
    cases e
    exact hcell 2 _ rfl
   have g5 := cell_lt t5
   clear hE5 hk5
   try simp only [Act.put, laS]
   refine wpAnyH_ready (rs := [11]) (by kernel_rfl) (by simp) ?_
   refine AllReadyH.cons rfl (fun K hK => ?_) AllReadyH.nil
   go_simp
   refine hK.out _ _ trivial (fun _ => ?_)
   clear hK K
   try simp only [Act.put, laS]
   refine wpAnyH_ready (rs := [12]) (by kernel_rfl) (by simp) ?_
   refine AllReadyH.cons rfl (fun K hK => ?_) AllReadyH.nil
   rw [if_pos (by kernel_rfl)]
   have hoA := (lvs_snoc hE5'.out.P.ls).2.a.alloc (.cells #[.int .i64 iv] 3)
   have hB5 : B ≤ w5.heap.size := by have := hE5'.out.lt; have := hE5'.out.ge; omega
   have hoA' : (w5.alloc (.cells #[.int .i64 iv] 3)).ownsRow B 3 1 v1 r.top.rows.length (ilist r.top.rows) := hoA
   refine wp_append_lies (P := Tryz.prog) _ _ _ 53 rfl B 3 i0 (.int .i64 0) 1 8 Tryz.underlying53 hi0 hz0 hz1 hz2 rfl (by decide) _ r.top.rows.length _ rfl hoA' ⟨w5.heap.size, 0, none⟩ 1 1 [.int .i64 iv] rfl rfl (cell_one_new _ _ _) (by simp [Value.oneCell']) (by decide) (by unfold maxLen; omega) (by omega) (by rw [World.size_alloc]; omega) _ rfl ?_
   intro g cap3 w6 hown6 hgrow6 hat6 hlt6
   replace hgrow6 : (w5.alloc (.cells #[.int .i64 iv] 3)).grownBy w6 v1.ownBlock := hgrow6
   replace hat6 : v1.ownBlock = some g ∨ g = w5.heap.size + 1 := by rw [← World.size_alloc w5 (.cells #[.int .i64 iv] 3)]; exact hat6
   have bA5 : Below w5.heap.size w5 (w5.alloc (.cells #[.int .i64 iv] 3)) := (Below.refl _ w5).alloc (Nat.le_refl _) _
   have hfin := EM.rows hE5'.out HLL.out bA5 hgrow6 hown6 (by rcases hat6 with e | e; exact .inl e.symm; exact .inr ⟨g, rfl, by omega⟩)
   obtain ⟨cL, hcL⟩ := own_block hE5'.out.P.lw (show vL.ownBlock = some gL by rw [HLL.out]; rfl)
   have hnL : some gL ≠ v1.ownBlock := fun e => own_blk (lvs_snoc hE5'.out.P.ls).2.a hcL (by decide) e.symm
   have hgl5 := (Array.getElem?_eq_some_iff.1 hcL).1
   have hc6 : w6.heap[gL]? = some (.cells cL 55 (0, 0)) := by
    rw [hgrow6.block gL (by rw [World.size_alloc]; omega) hnL, bA5.block gL hgl5]; exact hcL
   have t6 : w6.cell? ⟨gL, r.lo.length * 4 + 2, none⟩ = some v1 := by
    rw [cell_of _ _ _ _ hc6, ← cell_of _ _ _ _ hcL]; exact t5
   have f6 := frozen_of _ _ _ _ hc6 (r.lo.length * 4 + 2)
   have hfin2 := EM.noItems hfin.1 HLL.out
   have t7 : World.cell? (w6.setCell ⟨gL, r.lo.length * 4 + 2, none⟩ (.slice (some ⟨g, 0, none⟩) (r.top.rows.length + 1) cap3)) ⟨gL, r.lo.length * 4 + 3, none⟩ = some (.slice (some ⟨gi, 0, none⟩) (m + 1) capi) := by
    obtain ⟨g', c', e, _, hcell, _⟩ := hfin.1.P.top
    rw [HLL.out] at e
    cases e
    exact hcell 3 _ rfl
   have f7 : World.frozen? (w6.setCell ⟨gL, r.lo.length * 4 + 2, none⟩ (.slice (some ⟨g, 0, none⟩) (r.top.rows.length + 1) cap3)) ⟨gL, r.lo.length * 4 + 3, none⟩ = false := by
    obtain ⟨g', c', e, _, _, hf, _⟩ := hfin.1.P.top
    rw [HLL.out] at e
    cases e
    exact hf _
   have HFN := Lib.hid (And.intro hfin2 (((HBB.out.trans hk5'.out.bel).trans hfin.2).setCell (p := ⟨gL, r.lo.length * 4 + 3, none⟩) hgB (.slice none 0 0)))
   clear hfin hown6 hgrow6 hat6 hoA hoA' bA5 hcL hnL hc6 hfin2
   refine hK.out _ _ trivial (fun _ => ?_)
   clear hK K
   try simp only [Act.put, laS]
   refine wpAnyH_take (i := 13) (v := ?_) rfl (by kernel_rfl) (by kernel_rfl) (by kernel_rfl) (fun _ _ _ h => h) (Or.inl ⟨by kernel_rfl, ?_⟩) (by trivial) ?_
   rotate_left
   ·(intro w hSw; (try dsimp only at hSw); go_simp); (try with_reducible rfl)
   try simp only [Act.put, laS]
   refine wpAnyH_take (i := 14) (v := ?_) rfl (by kernel_rfl) (by kernel_rfl) (by kernel_rfl) (fun _ _ _ h => h) (Or.inl ⟨by kernel_rfl, ?_⟩) (by trivial) ?_
   rotate_left
   ·(intro w hSw; (try dsimp only at hSw); go_simp); (try with_reducible rfl)
   try simp only [Act.put, laS]
   refine wpAnyH_ready (rs := [15]) (by kernel_rfl) (by simp) ?_
   refine AllReadyH.cons rfl (fun K hK => ?_) AllReadyH.nil
   go_simp
   refine hK.out _ _ trivial (fun _ => ?_)
   clear hK K
   try simp only [Act.put, laS]
   refine wpAnyH_done (by kernel_rfl) ?_ _
   generalize World.setCell w6 ⟨gL, r.lo.length * 4 + 2, none⟩ (.slice (some ⟨g, 0, none⟩) (r.top.rows.length + 1) cap3) = w7 at *
   go_wp2
   go_ret
   exact ⟨rfl, ⟨_, _, _, HFN.out.1⟩, HFN.out.2⟩
  ·go_simp
   refine hK.out _ _ trivial (fun _ => ?_)
   clear hK K
   try simp only [Act.put, laS]
   refine wpAnyH_ready (rs := [4, 10]) (by kernel_rfl) (by simp) ?_
   refine AllReadyH.cons rfl (fun K hK => ?_) (AllReadyH.cons rfl (fun K hK => ?_) AllReadyH.nil)
   ·go_simp
    refine hK.out _ _ trivial (fun _ => ?_)
    clear hK K
    try simp only [Act.put, laS]
    refine wpAnyH_ready (rs := [10]) (by kernel_rfl) (by simp) ?_
    refine AllReadyH.cons rfl (fun K hK => ?_) AllReadyH.nil
    go_simp
    refine (HCH.out W.drew ((Below.refl _ W).drew)).mono ?_
    rintro e w5 ⟨rfl, vl5, hE5, hk5⟩
    refine hK.out _ _ trivial (fun _ => ?_)
    clear hK K
    have hE5' := Lib.hid hE5
    have hk5' := Lib.hid hk5
    have t5 : w5.cell? ⟨gL, r.lo.length * 4 + 2, none⟩ = some v1 := by
     obtain ⟨g', c', e, _, hcell, _⟩ := hE5.P.top
     rw [HLL.out] at e
     cases e
     exact hcell 2 _ rfl
    have g5 := cell_lt t5
    clear hE5 hk5
    try simp only [Act.put, laS]
    refine wpAnyH_ready (rs := [11]) (by kernel_rfl) (by simp) ?_
    refine AllReadyH.cons rfl (fun K hK => ?_) AllReadyH.nil
    go_simp
    refine hK.out _ _ trivial (fun _ => ?_)
    clear hK K
    try simp only [Act.put, laS]
    refine wpAnyH_ready (rs := [12]) (by kernel_rfl) (by simp) ?_
    refine AllReadyH.cons rfl (fun K hK => ?_) AllReadyH.nil
    rw [if_pos (by kernel_rfl)]
    have hoA := (lvs_snoc hE5'.out.P.ls).2.a.alloc (.cells #[.int .i64 iv] 3)
    have hB5 : B ≤ w5.heap.size := by have := hE5'.out.lt; have := hE5'.out.ge; omega
    have hoA' : (w5.alloc (.cells #[.int .i64 iv] 3)).ownsRow B 3 1 v1 r.top.rows.length (ilist r.top.rows) := hoA
    refine wp_append_lies (P := Tryz.prog) _ _ _ 53 rfl B 3 i0 (.int .i64 0) 1 8 Tryz.underlying53 hi0 hz0 hz1 hz2 rfl (by decide) _ r.top.rows.length _ rfl hoA' ⟨w5.heap.size, 0, none⟩ 1 1 [.int .i64 iv] rfl rfl (cell_one_new _ _ _) (by simp [Value.oneCell']) (by decide) (by unfold maxLen; omega) (by omega) (by rw [World.size_alloc]; omega) _ rfl ?_
    intro g cap3 w6 hown6 hgrow6 hat6 hlt6
    replace hgrow6 : (w5.alloc (.cells #[.int .i64 iv] 3)).grownBy w6 v1.ownBlock := hgrow6
    replace hat6 : v1.ownBlock = some g ∨ g = w5.heap.size + 1 := by rw [← World.size_alloc w5 (.cells #[.int .i64 iv] 3)]; exact hat6
    have bA5 : Below w5.heap.size w5 (w5.alloc (.cells #[.int .i64 iv] 3)) := (Below.refl _ w5).alloc (Nat.le_refl _) _
    have hfin := EM.rows hE5'.out HLL.out bA5 hgrow6 hown6 (by rcases hat6 with e | e; exact .inl e.symm; exact .inr ⟨g, rfl, by omega⟩)
    obtain ⟨cL, hcL⟩ := own_block hE5'.out.P.lw (show vL.ownBlock = some gL by rw [HLL.out]; rfl)
    have hnL : some gL ≠ v1.ownBlock := fun e => own_blk (lvs_snoc hE5'.out.P.ls).2.a hcL (by decide) e.symm
    have hgl5 := (Array.getElem?_eq_some_iff.1 hcL).1
    have hc6 : w6.heap[gL]? = some (.cells cL 55 (0, 0)) := by
     rw [hgrow6.block gL (by rw [World.size_alloc]; omega) hnL, bA5.block gL hgl5]; exact hcL
    have t6 : w6.cell? ⟨gL, r.lo.length * 4 + 2, none⟩ = some v1 := by
     rw [cell_of _ _ _ _ hc6, ← cell_of _ _ _ _ hcL]; exact t5
    have f6 := frozen_of _ _ _ _ hc6 (r.lo.length * 4 + 2)
    have hfin2 := EM.noItems hfin.1 HLL.out
    have t7 : World.cell? (w6.setCell ⟨gL, r.lo.length * 4 + 2, none⟩ (.slice (some ⟨g, 0, none⟩) (r.top.rows.length + 1) cap3)) ⟨gL, r.lo.length * 4 + 3, none⟩ = some (.slice (some ⟨gi, 0, none⟩) (m + 1) capi) := by
     obtain ⟨g', c', e, _, hcell, _⟩ := hfin.1.P.top
     rw [HLL.out] at e
     cases e
     exact hcell 3 _ rfl
    have f7 : World.frozen? (w6.setCell ⟨gL, r.lo.length * 4 + 2, none⟩ (.slice (some ⟨g, 0, none⟩) (r.top.rows.length + 1) cap3)) ⟨gL, r.lo.length * 4 + 3, none⟩ = false := by
     obtain ⟨g', c', e, _, _, hf, _⟩ := hfin.1.P.top
     rw [HLL.out] at e
     cases e
     exact hf _
    have HFN := Lib.hid (And.intro hfin2 (((HBB.out.trans hk5'.out.bel).trans hfin.2).setCell (p := ⟨gL, r.lo.length * 4 + 3, none⟩) hgB (.slice none 0 0)))
    clear hfin hown6 hgrow6 hat6 hoA hoA' bA5 hcL hnL hc6 hfin2
    refine hK.out _ _ trivial (fun _ => ?_)
    clear hK K
    try simp only [Act.put, laS]
    refine wpAnyH_take (i := 13) (v := ?_) rfl (by kernel_rfl) (by kernel_rfl) (by kernel_rfl) (fun _ _ _ h => h) (Or.inl ⟨by kernel_rfl, ?_⟩) (by trivial) ?_
    rotate_left
    ·(intro w hSw; (try dsimp only at hSw); go_simp); (try with_reducible rfl)
    try simp only [Act.put, laS]
    refine wpAnyH_take (i := 14) (v := ?_) rfl (by kernel_rfl) (by kernel_rfl) (by kernel_rfl) (fun _ _ _ h => h) (Or.inl ⟨by kernel_rfl, ?_⟩) (by trivial) ?_
    rotate_left
    ·(intro w hSw; (try dsimp only at hSw); go_simp); (try with_reducible rfl)
    try simp only [Act.put, laS]
    refine wpAnyH_ready (rs := [15]) (by kernel_rfl) (by simp) ?_
    refine AllReadyH.cons rfl (fun K hK => ?_) AllReadyH.nil
    go_simp
    refine hK.out _ _ trivial (fun _ => ?_)
    clear hK K
    try simp only [Act.put, laS]
    refine wpAnyH_done (by kernel_rfl) ?_ _
    generalize World.setCell w6 ⟨gL, r.lo.length * 4 + 2, none⟩ (.slice (some ⟨g, 0, none⟩) (r.top.rows.length + 1) cap3) = w7 at *
    go_wp2
    go_ret
    exact ⟨rfl, ⟨_, _, _, HFN.out.1⟩, HFN.out.2⟩
   ·go_simp
    refine (HCH.out W.drew ((Below.refl _ W).drew)).mono ?_
    rintro e w5 ⟨rfl, vl5, hE5, hk5⟩
    refine hK.out _ _ trivial (fun _ => ?_)
    clear hK K
    have hE5' := Lib.hid hE5
    have hk5' := Lib.hid hk5
    have t5 : w5.cell? ⟨gL, r.lo.length * 4 + 2, none⟩ = some v1 := by
     obtain ⟨g', c', e, _, hcell, _⟩ := hE5.P.top
     rw [HLL.out] at e
     cases e
     exact hcell 2 _ rfl
    have g5 := cell_lt t5
    clear hE5 hk5
    try simp only [Act.put, laS]
    refine wpAnyH_ready (rs := [4, 11]) (by kernel_rfl) (by simp) ?_
    refine AllReadyH.cons rfl (fun K hK => ?_) (AllReadyH.cons rfl (fun K hK => ?_) AllReadyH.nil)
    ·go_simp
     refine hK.out _ _ trivial (fun _ => ?_)
     clear hK K
     try simp only [Act.put, laS]
     refine wpAnyH_ready (rs := [11]) (by kernel_rfl) (by simp) ?_
     refine AllReadyH.cons rfl (fun K hK => ?_) AllReadyH.nil
     go_simp
     refine hK.out _ _ trivial (fun _ => ?_)
     clear hK K
     try simp only [Act.put, laS]
     refine wpAnyH_ready (rs := [12]) (by kernel_rfl) (by simp) ?_
     refine AllReadyH.cons rfl (fun K hK => ?_) AllReadyH.nil
     rw [if_pos (by kernel_rfl)]
     have hoA := (lvs_snoc hE5'.out.P.ls).2.a.alloc (.cells #[.int .i64 iv] 3)
     have hB5 : B ≤ w5.heap.size := by have := hE5'.out.lt; have := hE5'.out.ge; omega
     have hoA' : (w5.alloc (.cells #[.int .i64 iv] 3)).ownsRow B 3 1 v1 r.top.rows.length (ilist r.top.rows) := hoA
     refine wp_append_lies (P := Tryz.prog) _ _ _ 53 rfl B 3 i0 (.int .i64 0) 1 8 Tryz.underlying53 hi0 hz0 hz1 hz2 rfl (by decide) _ r.top.rows.length _ rfl hoA' ⟨w5.heap.size, 0, none⟩ 1 1 [.int .i64 iv] rfl rfl (cell_one_new _ _ _) (by simp [Value.oneCell']) (by decide) (by unfold maxLen; omega) (by omega) (by rw [World.size_alloc]; omega) _ rfl ?_
     intro g cap3 w6 hown6 hgrow6 hat6 hlt6
     replace hgrow6 : (w5.alloc (.cells #[.int .i64 iv] 3)).grownBy w6 v1.ownBlock := hgrow6
     replace hat6 : v1.ownBlock = some g ∨ g = w5.heap.size + 1 := by rw [← World.size_alloc w5 (.cells #[.int .i64 iv] 3)]; exact hat6
     have bA5 : Below w5.heap.size w5 (w5.alloc (.cells #[.int .i64 iv] 3)) := (Below.refl _ w5).alloc (Nat.le_refl _) _
     have hfin := EM.rows hE5'.out HLL.out bA5 hgrow6 hown6 (by rcases hat6 with e | e; exact .inl e.symm; exact .inr ⟨g, rfl, by omega⟩)
     obtain ⟨cL, hcL⟩ := own_block hE5'.out.P.lw (show vL.ownBlock = some gL by rw [HLL.out]; rfl)
     have hnL : some gL ≠ v1.ownBlock := fun e => own_blk (lvs_snoc hE5'.out.P.ls).2.a hcL (by decide) e.symm
     have hgl5 := (Array.getElem?_eq_some_iff.1 hcL).1
     have hc6 : w6.heap[gL]? = some (.cells cL 55 (0, 0)) := by
      rw [hgrow6.block gL (by rw [World.size_alloc]; omega) hnL, bA5.block gL hgl5]; exact hcL
     have t6 : w6.cell? ⟨gL, r.lo.length * 4 + 2, none⟩ = some v1 := by
      rw [cell_of _ _ _ _ hc6, ← cell_of _ _ _ _ hcL]; exact t5
     have f6 := frozen_of _ _ _ _ hc6 (r.lo.length * 4 + 2)
     have hfin2 := EM.noItems hfin.1 HLL.out
     have t7 : World.cell? (w6.setCell ⟨gL, r.lo.length * 4 + 2, none⟩ (.slice (some ⟨g, 0, none⟩) (r.top.rows.length + 1) cap3)) ⟨gL, r.lo.length * 4 + 3, none⟩ = some (.slice (some ⟨gi, 0, none⟩) (m + 1) capi) := by
      obtain ⟨g', c', e, _, hcell, _⟩ := hfin.1.P.top
      rw [HLL.out] at e
      cases e
      exact hcell 3 _ rfl
     have f7 : World.frozen? (w6.setCell ⟨gL, r.lo.length * 4 + 2, none⟩ (.slice (some ⟨g, 0, none⟩) (r.top.rows.length + 1) cap3)) ⟨gL, r.lo.length * 4 + 3, none⟩ = false := by
      obtain ⟨g', c', e, _, _, hf, _⟩ := hfin.1.P.top
      rw [HLL.out] at e
      cases e
      exact hf _
     have HFN := Lib.hid (And.intro hfin2 (((HBB.out.trans hk5'.out.bel).trans hfin.2).setCell (p := ⟨gL, r.lo.length * 4 + 3, none⟩) hgB (.slice none 0 0)))
     clear hfin hown6 hgrow6 hat6 hoA hoA' bA5 hcL hnL hc6 hfin2
     refine hK.out _ _ trivial (fun _ => ?_)
     clear hK K
     try simp only [Act.put, laS]
     refine wpAnyH_take (i := 13) (v := ?_) rfl (by kernel_rfl) (by kernel_rfl) (by kernel_rfl) (fun _ _ _ h => h) (Or.inl ⟨by kernel_rfl, ?_⟩) (by trivial) ?_
     rotate_left
     ·(intro w hSw; (try dsimp only at hSw); go_simp); (try with_reducible rfl)
     try simp only [Act.put, laS]
     refine wpAnyH_take (i := 14) (v := ?_) rfl (by kernel_rfl) (by kernel_rfl) (by kernel_rfl) (fun _ _ _ h => h) (Or.inl ⟨by kernel_rfl, ?_⟩) (by trivial) ?_
     rotate_left
     ·(intro w hSw; (try dsimp only at hSw); go_simp); (try with_reducible rfl)
     try simp only [Act.put, laS]
     refine wpAnyH_ready (rs := [15]) (by kernel_rfl) (by simp) ?_
     refine AllReadyH.cons rfl (fun K hK => ?_) AllReadyH.nil
     go_simp
     refine hK.out _ _ trivial (fun _ => ?_)
     clear hK K
     try simp only [Act.put, laS]
     refine wpAnyH_done (by kernel_rfl) ?_ _
     generalize World.setCell w6 ⟨gL, r.lo.length * 4 + 2, none⟩ (.slice (some ⟨g, 0, none⟩) (r.top.rows.length + 1) cap3) = w7 at *
     go_wp2
     go_ret
     exact ⟨rfl, ⟨_, _, _, HFN.out.1⟩, HFN.out.2⟩
    ·go_simp
     refine hK.out _ _ trivial (fun _ => ?_)
     clear hK K
     try simp only [Act.put, laS]
     refine wpAnyH_ready (rs := [4]) (by kernel_rfl) (by simp) ?_
     refine AllReadyH.cons rfl (fun K hK => ?_) AllReadyH.nil
     go_simp
     refine hK.out _ _ trivial (fun _ => ?_)
     clear hK K
     try simp only [Act.put, laS]
     refine wpAnyH_ready (rs := [12]) (by kernel_rfl) (by simp) ?_
     refine AllReadyH.cons rfl (fun K hK => ?_) AllReadyH.nil
     rw [if_pos (by kernel_rfl)]
     have hoA := (lvs_snoc hE5'.out.P.ls).2.a.alloc (.cells #[.int .i64 iv] 3)
     have hB5 : B ≤ w5.heap.size := by have := hE5'.out.lt; have := hE5'.out.ge; omega
     have hoA' : (w5.alloc (.cells #[.int .i64 iv] 3)).ownsRow B 3 1 v1 r.top.rows.length (ilist r.top.rows) := hoA
     refine wp_append_lies (P := Tryz.prog) _ _ _ 53 rfl B 3 i0 (.int .i64 0) 1 8 Tryz.underlying53 hi0 hz0 hz1 hz2 rfl (by decide) _ r.top.rows.length _ rfl hoA' ⟨w5.heap.size, 0, none⟩ 1 1 [.int .i64 iv] rfl rfl (cell_one_new _ _ _) (by simp [Value.oneCell']) (by decide) (by unfold maxLen; omega) (by omega) (by rw [World.size_alloc]; omega) _ rfl ?_
     intro g cap3 w6 hown6 hgrow6 hat6 hlt6
     replace hgrow6 : (w5.alloc (.cells #[.int .i64 iv] 3)).grownBy w6 v1.ownBlock := hgrow6
     replace hat6 : v1.ownBlock = some g ∨ g = w5.heap.size + 1 := by rw [← World.size_alloc w5 (.cells #[.int .i64 iv] 3)]; exact hat6
     have bA5 : Below w5.heap.size w5 (w5.alloc (.cells #[.int .i64 iv] 3)) := (Below.refl _ w5).alloc (Nat.le_refl _) _
     have hfin := EM.rows hE5'.out HLL.out bA5 hgrow6 hown6 (by rcases hat6 with e | e; exact .inl e.symm; exact .inr ⟨g, rfl, by omega⟩)
     obtain ⟨cL, hcL⟩ := own_block hE5'.out.P.lw (show vL.ownBlock = some gL by rw [HLL.out]; rfl)
     have hnL : some gL ≠ v1.ownBlock := fun e => own_blk (lvs_snoc hE5'.out.P.ls).2.a hcL (by decide) e.symm
     have hgl5 := (Array.getElem?_eq_some_iff.1 hcL).1
     have hc6 : w6.heap[gL]? = some (.cells cL 55 (0, 0)) := by
      rw [hgrow6.block gL (by rw [World.size_alloc]; omega) hnL, bA5.block gL hgl5]; exact hcL
     have t6 : w6.cell? ⟨gL, r.lo.length * 4 + 2, none⟩ = some v1 := by
      rw [cell_of _ _ _ _ hc6, ← cell_of _ _ _ _ hcL]; exact t5
     have f6 := frozen_of _ _ _ _ hc6 (r.lo.length * 4 + 2)
     have hfin2 := EM.noItems hfin.1 HLL.out
     have t7 : World.cell? (w6.setCell ⟨gL, r.lo.length * 4 + 2, none⟩ (.slice (some ⟨g, 0, none⟩) (r.top.rows.length + 1) cap3)) ⟨gL, r.lo.length * 4 + 3, none⟩ = some (.slice (some ⟨gi, 0, none⟩) (m + 1) capi) := by
      obtain ⟨g', c', e, _, hcell, _⟩ := hfin.1.P.top
      rw [HLL.out] at e
      cases e
      exact hcell 3 _ rfl
     have f7 : World.frozen? (w6.setCell ⟨gL, r.lo.length * 4 + 2, none⟩ (.slice (some ⟨g, 0, none⟩) (r.top.rows.length + 1) cap3)) ⟨gL, r.lo.length * 4 + 3, none⟩ = false := by
      obtain ⟨g', c', e, _, _, hf, _⟩ := hfin.1.P.top
      rw [HLL.out] at e
      cases e
      exact hf _
     have HFN := Lib.hid (And.intro hfin2 (((HBB.out.trans hk5'.out.bel).trans hfin.2).setCell (p := ⟨gL, r.lo.length * 4 + 3, none⟩) hgB (.slice none 0 0)))
     clear hfin hown6 hgrow6 hat6 hoA hoA' bA5 hcL hnL hc6 hfin2
     refine hK.out _ _ trivial (fun _ => ?_)
     clear hK K
     try simp only [Act.put, laS]
     refine wpAnyH_take (i := 13) (v := ?_) rfl (by kernel_rfl) (by kernel_rfl) (by kernel_rfl) (fun _ _ _ h => h) (Or.inl ⟨by kernel_rfl, ?_⟩) (by trivial) ?_
     rotate_left
     ·(intro w hSw; (try dsimp only at hSw); go_simp); (try with_reducible rfl)
     try simp only [Act.put, laS]
     refine wpAnyH_take (i := 14) (v := ?_) rfl (by kernel_rfl) (by kernel_rfl) (by kernel_rfl) (fun _ _ _ h => h) (Or.inl ⟨by kernel_rfl, ?_⟩) (by trivial) ?_
     rotate_left
     ·(intro w hSw; (try dsimp only at hSw); go_simp); (try with_reducible rfl)
     try simp only [Act.put, laS]
     refine wpAnyH_ready (rs := [15]) (by kernel_rfl) (by simp) ?_
     refine AllReadyH.cons rfl (fun K hK => ?_) AllReadyH.nil
     go_simp
     refine hK.out _ _ trivial (fun _ => ?_)
     clear hK K
     try simp only [Act.put, laS]
     refine wpAnyH_done (by kernel_rfl) ?_ _
     generalize World.setCell w6 ⟨gL, r.lo.length * 4 + 2, none⟩ (.slice (some ⟨g, 0, none⟩) (r.top.rows.length + 1) cap3) = w7 at *
     go_wp2
     go_ret
     exact ⟨rfl, ⟨_, _, _, HFN.out.1⟩, HFN.out.2⟩
end
end Go.Proofs.YtdjcgjkbecncaaaGreatDoor
namespace Go.Proofs.YtdjcgjkbecncaaaGreatDoor
open Go.RowKit
section
variable {B b mb : Nat} {mo : Obj} {s : List UInt8} {r : ES} {vl vL : Value} {vo : List (Value × Value)} {vt : Value × Value} {w : World}
theorem endE_ok {q : ES} (h : endE r = some q) : q.p = r.p ∧ q.lo = r.lo ∧ q.g = r.g ∧ q.ia = r.ia ∧ q.top.items = [] ∧ q.top.p = r.top.p ∧ q.top.n = r.top.n ∧ q.top.rows.length = r.top.rows.length + 1 := by
 unfold endE at h
 split at h
 ·cases h
 ·obtain ⟨l', hl'⟩ := chE_eq 4 r r.top.items
  cases h
  rw [hl']
  exact ⟨rfl, rfl, rfl, rfl, rfl, rfl, rfl, by simp⟩
theorem ebar_c (w : World) (h : EM B b mb mo s r vl vL vo vt w) (hp : r.p + 1 ≤ s.length) (hi : r.top.items.length ≤ 200000) (hr : r.top.rows.length ≤ 200000) :
  Calls Tryz.prog 62 #[.pointer (some ⟨b, 0, none⟩)] w (SOut B b mb mo s (barE r) w) := by
 have hge := h.ge
 have hlen := h.len
 have hER := eendRow_c w h hi hr
 cases hq : endE r with
 | none =>
  have hE : barE r = .error 40 := by unfold barE; rw [hq]
  rw [hE]
  have HR := Lib.hid hER
  have HQ := Lib.hid hq
  clear h hER hE hq
  go_enter Tryz.func62, Tryz.ntmps62
  go_wp2_with fail
  refine HR.out.mono ?_
  intro e w1 ho
  unfold ROutE at ho
  rw [HQ.out] at ho
  obtain ⟨rfl, _, hB⟩ := ho
  have HB := Lib.hid hB
  clear hB
  go_wp2
  go_ret
  exact ⟨HB.out, rfl⟩
 | some q =>
  have hE : barE r = .ok { q with p := q.p + 1, ia := false } := by unfold barE; rw [hq]
  rw [hE]
  have hk := endE_ok hq
  have HR := Lib.hid hER
  have HQ := Lib.hid hq
  have hqp := hk.1
  have ew : IntKind.i64.wrap ((q.p : Int) + 1) = (q.p : Int) + 1 := by rw [hqp]; simp [IntKind.wrap, IntKind.signed, IntKind.bits]; omega
  have HP : Hid (q.p + 1 ≤ s.length) := Lib.hid (by omega)
  clear h hER hE hq hk hqp
  go_enter Tryz.func62, Tryz.ntmps62
  go_wp2_with fail
  refine HR.out.mono ?_
  intro e w1 ho
  unfold ROutE at ho
  rw [HQ.out] at ho
  obtain ⟨rfl, ⟨vl1, vt1, hx⟩, hB⟩ := ho
  have d1 : w1.cell? ⟨b, 1, none⟩ = some (.int .i64 (q.p : Int)) := (hx.cell 1).trans rfl
  have f1 := hx.fz 1
  have d5 : w1.cell? ⟨b, 5, none⟩ = some (.bool q.ia) := (hx.cell 5).trans rfl
  have f5 := hx.fz 5
  have hX := EM.at2 hx (q.p + 1) false HP.out
  have hB2 := (hB.setCell (p := ⟨b, 1, none⟩) hge (.int .i64 ((q.p + 1 : Nat) : Int))).setCell (p := ⟨b, 5, none⟩) hge (.bool false)
  rw [show ((q.p + 1 : Nat) : Int) = (q.p : Int) + 1 by omega] at hX hB2
  have HX := Lib.hid hX
  have HB := Lib.hid hB2
  clear hX hB2 hx hB HR
  go_wp2
  go_ret
  exact ⟨HB.out, rfl, _, _, _, _, HX.out⟩
end
end Go.Proofs.YtdjcgjkbecncaaaGreatDoor
