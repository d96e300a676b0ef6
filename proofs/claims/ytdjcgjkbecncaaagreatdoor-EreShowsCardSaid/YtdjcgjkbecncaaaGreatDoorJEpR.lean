/- ere: shut. -/
import Derived.Test.YtdjcgjkbecncaaaGreatDoorJEpQ
set_option linter.unusedVariables false
set_option linter.unusedSimpArgs false
set_option maxRecDepth 100000
set_option maxHeartbeats 40000000
namespace Go.Proofs.YtdjcgjkbecncaaaGreatDoor
open Go.RowKit
section
variable {B b mb : Nat} {mo : Obj} {s : List UInt8} {r : ES} {vl vL : Value} {vo : List (Value × Value)} {vt : Value × Value} {w : World}
theorem eshut_c (w : World) (h : EM B b mb mo s r vl vL vo vt w) (hp : r.p + 1 ≤ s.length) (hi : r.top.items.length ≤ 200000) (hr : r.top.rows.length ≤ 200000) (hlo : r.lo.length ≤ 100000) (hti : ∀ t ∈ r.lo, t.items.length ≤ 200000) :
  Calls Tryz.prog 61 #[.pointer (some ⟨b, 0, none⟩)] w (SOut B b mb mo s (shutE r) w) := by
 have hge := h.ge
 obtain ⟨gL, capL, hL, hgB, _, _, hgl, _⟩ := h.P.top
 have d3 : w.cell? ⟨b, 3, none⟩ = some (.slice (some ⟨gL, 0, none⟩) (r.lo.length + 1) capL) := by rw [← hL]; exact (h.cell 3).trans rfl
 rcases List.eq_nil_or_concat r.lo with hl0 | ⟨lo', t, hl⟩
 ·have hE : shutE r = .error 41 := by unfold shutE; rw [hl0]; rfl
  rw [hE]
  rw [hl0] at d3
  simp only [List.length_nil] at d3
  clear h hE hl0 hL hti
  go_enter Tryz.func61, Tryz.ntmps61
  go_wp2
  go_ret
  exact ⟨Below.refl _ _, rfl⟩
 ·rw [List.concat_eq_append] at hl
  have hn1 : (((r.lo.length : Int) + 1) == 1) = false := by rw [beq_eq_false_iff_ne, hl]; simp; omega
  have hER := eendRow_c w h hi hr
  cases hq : endE r with
  | none =>
   have hE : shutE r = .error 40 := by unfold shutE; rw [hl, hq]; simp
   rw [hE]
   have HR := Lib.hid hER
   have HQ := Lib.hid hq
   clear h hER hE hq hl hL hti
   go_enter Tryz.func61, Tryz.ntmps61
   go_wp2_with fail
   refine HR.out.mono ?_
   intro e w1 ho
   unfold ROutE at ho
   rw [HQ.out] at ho
   obtain ⟨rfl, _, hB⟩ := ho
   have HB := Lib.hid hB
   clear hB
   go_wp2
   go_ret
   exact ⟨HB.out, rfl⟩
  | some q =>
   have hk := endE_ok hq
   obtain ⟨k1, k2, k3, k4, k5, k6, k7, k8⟩ := hk
   have hql : q.lo = lo' ++ [t] := k2.trans hl
   obtain ⟨l, z, hz⟩ : ∃ l z, q.top.rows = l ++ [z] := by
    rcases List.eq_nil_or_concat q.top.rows with e | ⟨l, z, e⟩
    ·rw [e] at k8; simp at k8
    ·exact ⟨l, z, by rw [e, List.concat_eq_append]⟩
   have hll : l.length ≤ 200000 := by rw [hz] at k8; simp at k8; omega
   obtain ⟨l', hl'⟩ := chE_eq 5 (popE q t lo') (l ++ [z])
   obtain ⟨iv, hiv⟩ : ∃ iv, iv = (chE 5 (popE q t lo') (l ++ [z])).2 := ⟨_, rfl⟩
   have hE : shutE r = .ok (ES.item { popE q t lo' with l := l' } ⟨7, 0, 0, 0, 0, iv, 0, 0, 0, (q.top.n : Int)⟩ 1 true) := by
    unfold shutE
    rw [hl, hq]
    simp only [List.getLast?_append, List.getLast?_singleton, Option.some_or, Option.or_some]
    rw [hql, List.dropLast_concat, hz, hl', hiv]
   rw [hE]
   obtain ⟨vo', vt', hvo⟩ : ∃ vo' vt', vo = vo' ++ [vt'] := by
    have := lvs_len (lvs_snoc h.P.ls).1
    rcases List.eq_nil_or_concat vo with e | ⟨a, c, e⟩
    ·rw [e, hl] at this; simp at this
    ·exact ⟨a, c, by rw [e, List.concat_eq_append]⟩
   have hL1 : vL = .slice (some ⟨gL, 0, none⟩) (q.lo.length + 1) capL := by rw [k2]; exact hL
   have HP : Hid ((popE q t lo').p + 1 ≤ s.length) := Lib.hid (by show q.p + 1 ≤ _; omega)
   have HTI : Hid (({ popE q t lo' with l := l' } : ES).top.items.length ≤ 200000) := Lib.hid (hti t (by rw [hl]; simp))
   have HR := Lib.hid hER
   have HQ := Lib.hid hq
   have HCL := Lib.hid hl'
   have HIV := Lib.hid hiv
   have HZ := Lib.hid hz
   have HQL := Lib.hid hql
   have HVO := Lib.hid hvo
   have HL := Lib.hid hL1
   have hqn : q.lo.length ≤ 100000 := by rw [k2]; exact hlo
   clear h hER hE hq hl hL hti k1 k2 k3 k4 k5 k6 k7 k8 hl' hiv hz hql hvo hL1 hlo
   go_enter Tryz.func61, Tryz.ntmps61
   go_wp2_with fail
   refine HR.out.mono ?_
   intro e w1 ho
   unfold ROutE at ho
   rw [HQ.out] at ho
   obtain ⟨rfl, ⟨vl1, vt1, hx⟩, hB⟩ := ho
   have HTOP := Lib.hid (etop_c w1 hx HL.out)
   have HX := Lib.hid hx
   have HB := Lib.hid hB
   have hgB' : B ≤ w1.heap.size := by have := hx.lt; have := hx.ge; omega
   clear hx hB HR d3
   go_wp2_with fail
   refine HTOP.out.mono ?_
   rintro e w4 ⟨rfl, nq, rfl⟩
   have bW : Below w1.heap.size w1 (w1.drewN nq) := Go.below_drewN (Below.refl _ _) nq
   generalize w1.drewN nq = W at *
   have hEW := HX.out.below bW
   obtain ⟨v1, v2⟩ := vt1
   obtain ⟨o2, cap2, hv2⟩ := row_slice (lvs_snoc hEW.P.ls).2.b
   simp only at hv2
   generalize q.top.items.length = n2 at hv2
   subst hv2
   have ho := (lvs_snoc hEW.P.ls).2.a
   rw [HZ.out, show (l ++ [z]).length = l.length + 1 by simp] at ho
   obtain ⟨gi, capi, hv1, hci, hcm, hint, hgI⟩ := ints_of ho (by simp)
   simp only at hv1
   subst hv1
   have tc : ∀ j v, (lcs4 q.top (.slice (some ⟨gi, 0, none⟩) (l.length + 1) capi, .slice o2 n2 cap2))[j]? = some v → W.cell? ⟨gL, q.lo.length * 4 + j, none⟩ = some v := by
    obtain ⟨g', c', e, _, hcell, _⟩ := hEW.P.top
    rw [HL.out] at e
    cases e
    exact hcell
   have t0 : W.cell? ⟨gL, q.lo.length * 4, none⟩ = some (.int .i64 (q.top.p : Int)) := tc 0 _ rfl
   have t1 : W.cell? ⟨gL, q.lo.length * 4 + 1, none⟩ = some (.int .i64 (q.top.n : Int)) := tc 1 _ rfl
   have t2 : W.cell? ⟨gL, q.lo.length * 4 + 2, none⟩ = some (.slice (some ⟨gi, 0, none⟩) (l.length + 1) capi) := tc 2 _ rfl
   have t3 : W.cell? ⟨gL, q.lo.length * 4 + 3, none⟩ = some (.slice o2 n2 cap2) := tc 3 _ rfl
   obtain ⟨m, hm⟩ : ∃ m, m = l.length := ⟨_, rfl⟩
   have HM := Lib.hid hm
   rw [← hm] at t2 hll hci
   clear tc
   obtain ⟨W1, hW1⟩ : ∃ W1, W1 = W.alloc (.cells #[.int .i64 (q.top.p : Int), .int .i64 (q.top.n : Int), .slice (some ⟨gi, 0, none⟩) (m + 1) capi, .slice o2 n2 cap2] 55) := ⟨_, rfl⟩
   have bW1 : Below W.heap.size W W1 := by rw [hW1]; exact (Below.refl _ W).alloc (Nat.le_refl _) _
   have hG1 : W1.heap[W.heap.size]? = some (.cells #[.int .i64 (q.top.p : Int), .int .i64 (q.top.n : Int), .slice (some ⟨gi, 0, none⟩) (m + 1) capi, .slice o2 n2 cap2] 55 (0, 0)) := by rw [hW1]; exact heap_new W _
   have hE1 := hEW.below bW1
   have hbl := hEW.lt
   obtain ⟨W2, hW2⟩ : ∃ W2, W2 = World.drew (World.setCell W1 ⟨b, 3, none⟩ (.slice (some ⟨gL, 0, none⟩) q.lo.length capL)) := ⟨_, rfl⟩
   have HW2 := Lib.hid hW2.symm
   have hE2 := (EM.pop hE1 HL.out HQL.out HVO.out).drew
   rw [← hW2] at hE2
   have hh2 : ∀ k, k ≠ b → W2.heap[k]? = W1.heap[k]? := fun k hk => by rw [hW2]; exact Below.heap_setCell _ _ _ _ (fun e => hk e)
   have HG2 : Hid (W2.heap[W.heap.size]? = some (.cells #[.int .i64 (q.top.p : Int), .int .i64 (q.top.n : Int), .slice (some ⟨gi, 0, none⟩) (m + 1) capi, .slice o2 n2 cap2] 55 (0, 0))) := Lib.hid ((hh2 _ (by omega)).trans hG1)
   have r2 : W2.cell? ⟨W.heap.size, 2, none⟩ = some (.slice (some ⟨gi, 0, none⟩) (m + 1) capi) := (cell_of _ _ _ _ HG2.out 2).trans rfl
   have r1 : W2.cell? ⟨W.heap.size, 1, none⟩ = some (.int .i64 (q.top.n : Int)) := (cell_of _ _ _ _ HG2.out 1).trans rfl
   obtain ⟨cI, hcI⟩ := hgI
   have hgil := (Array.getElem?_eq_some_iff.1 hcI).1
   have hgib : gi ≠ b := fun e => by rw [e, hEW.heap] at hcI; cases hcI
   have hc2 : ∀ W', Below W2.heap.size W2 W' → W'.heap[gi]? = W.heap[gi]? := fun W' hB' => by
    have e1 := (hh2 gi hgib).trans (bW1.block gi hgil)
    have hl2 : gi < W2.heap.size := (Array.getElem?_eq_some_iff.1 (e1.trans hcI)).1
    exact (hB'.block gi hl2).trans e1
   have hch := fun W' (hB' : Below W2.heap.size W2 W') => echain_c 5 l z gi capi W' (hE2.below hB') (by have := HM.out; omega) (by have := HM.out; omega) hcm
    (hint.hold (p := gi) ⟨hc2 W' hB', hc2 W' hB'⟩) ⟨cI, (hc2 W' hB').trans hcI⟩
   rw [HCL.out, ← HIV.out, ← HM.out] at hch
   have HCH := Lib.hid hch
   have HB2 : Hid (Below B w W2.drew) := Lib.hid (by rw [hW2]; exact (((HB.out.trans (bW.mono hgB')).trans (bW1.mono (by have := bW.size; omega))).setCell (p := ⟨b, 3, none⟩) hge _).drew.drew)
   have d3 : W1.cell? ⟨b, 3, none⟩ = some (.slice (some ⟨gL, 0, none⟩) (q.lo.length + 1) capL) := by rw [← HL.out]; exact (hE1.cell 3).trans rfl
   have f3 := hE1.fz 3
   have hcl : q.lo.length + 1 ≤ capL := by
    have hw := hE1.P.lw
    rw [show (q.lo ++ [q.top]).length = q.lo.length + 1 by simp] at hw
    rcases hw.2 with ⟨_, h0⟩ | ⟨g, c2, cur, e, _, _, hn, _⟩
    ·omega
    ·rw [HL.out] at e; cases e; exact hn
   have ew : IntKind.i64.wrap ((q.lo.length : Int) + 1 - 1) = (q.lo.length : Int) := by simp [IntKind.wrap, IntKind.signed, IntKind.bits]; omega
   have ew2 : IntKind.i64.wrap (q.lo.length : Int) = (q.lo.length : Int) := by simp [IntKind.wrap, IntKind.signed, IntKind.bits]; omega
   have hcc : (0 : Int) ≤ (q.lo.length : Int) ∧ (q.lo.length : Int) ≤ (capL : Int) := by omega
   clear hch hE2 hE1 hEW ho hint hG1 hW2 bW bW1 hh2 hc2 hcI hm
   go_wp2_with fail
   rw [← hW1]
   clear hW1 t0 t1 t2 t3
   refine wp_region_held_drew (S := fun _ => True) (by kernel_rfl) trivial (fun _ => ?_)
   refine wpAnyH_take (i := 0) (v := ?_) rfl (by kernel_rfl) (by kernel_rfl) (by kernel_rfl) (fun _ _ _ h => h) (Or.inl ⟨by kernel_rfl, ?_⟩) (by trivial) ?_
   rotate_left
   ·(intro w hSw; (try dsimp only at hSw); go_simp); (try with_reducible rfl)
   try simp only [Act.put, laS]
   refine wpAnyH_take (i := 1) (v := ?_) rfl (by kernel_rfl) (by kernel_rfl) (by kernel_rfl) (fun _ _ _ h => h) (Or.inl ⟨by kernel_rfl, ?_⟩) (by trivial) ?_
   rotate_left
   ·(intro w hSw; (try dsimp only at hSw); go_simp); (try with_reducible rfl)
   try simp only [Act.put, laS]
   refine wpAnyH_take (i := 2) (v := ?_) rfl (by kernel_rfl) (by kernel_rfl) (by kernel_rfl) (fun _ _ _ h => h) (Or.inl ⟨by kernel_rfl, ?_⟩) (by trivial) ?_
   rotate_left
   ·(intro w hSw; (try dsimp only at hSw); go_simp); (try with_reducible rfl)
   try simp only [Act.put, laS]
   refine wpAnyH_take (i := 3) (v := ?_) rfl (by kernel_rfl) (by kernel_rfl) (by kernel_rfl) (fun _ _ _ h => h) (Or.inl ⟨by kernel_rfl, ?_⟩) (by trivial) ?_
   rotate_left
   ·(intro w hSw; (try dsimp only at hSw); go_simp); (try with_reducible rfl)
   try simp only [Act.put, laS]
   refine wpAnyH_take (i := 5) (v := ?_) rfl (by kernel_rfl) (by kernel_rfl) (by kernel_rfl) (fun _ _ _ h => h) (Or.inl ⟨by kernel_rfl, ?_⟩) (by trivial) ?_
   rotate_left
   ·(intro w hSw; (try dsimp only at hSw); go_simp); (try with_reducible rfl)
   try simp only [Act.put, laS]
   refine wpAnyH_take (i := 6) (v := ?_) rfl (by kernel_rfl) (by kernel_rfl) (by kernel_rfl) (fun _ _ _ h => h) (Or.inl ⟨by kernel_rfl, ?_⟩) (by trivial) ?_
   rotate_left
   ·(intro w hSw; (try dsimp only at hSw); go_simp); (try with_reducible rfl)
   try simp only [Act.put, laS]
   refine wpAnyH_take (i := 7) (v := ?_) rfl (by kernel_rfl) (by kernel_rfl) (by kernel_rfl) (fun _ _ _ h => h) (Or.inl ⟨by kernel_rfl, ?_⟩) (by trivial) ?_
   rotate_left
   ·(intro w hSw; (try dsimp only at hSw); go_simp); (try with_reducible rfl)
   try simp only [Act.put, laS]
   refine wpAnyH_ready (rs := [4, 8]) (by kernel_rfl) (by simp) ?_
   refine AllReadyH.cons rfl (fun K hK => ?_) (AllReadyH.cons rfl (fun K hK => ?_) AllReadyH.nil)
   ·go_simp
    refine hK.out _ _ trivial (fun _ => ?_)
    clear hK K
    try simp only [Act.put, laS]
    refine wpAnyH_ready (rs := [8]) (by kernel_rfl) (by simp) ?_
    refine AllReadyH.cons rfl (fun K hK => ?_) AllReadyH.nil
    go_simp
    refine hK.out _ _ trivial (fun _ => ?_)
    clear hK K
    try simp only [Act.put, laS]
    refine wpAnyH_take (i := 9) (v := ?_) rfl (by kernel_rfl) (by kernel_rfl) (by kernel_rfl) (fun _ _ _ h => h) (Or.inl ⟨by kernel_rfl, ?_⟩) (by trivial) ?_
    rotate_left
    ·(intro w hSw; (try dsimp only at hSw); go_simp); (try with_reducible rfl)
    try simp only [Act.put, laS]
    refine wpAnyH_take (i := 10) (v := ?_) rfl (by kernel_rfl) (by kernel_rfl) (by kernel_rfl) (fun _ _ _ h => h) (Or.inl ⟨by kernel_rfl, ?_⟩) (by trivial) ?_
    rotate_left
    ·(intro w hSw; (try dsimp only at hSw); go_simp); (try with_reducible rfl)
    try simp only [Act.put, laS]
    refine wpAnyH_take (i := 11) (v := ?_) rfl (by kernel_rfl) (by kernel_rfl) (by kernel_rfl) (fun _ _ _ h => h) (Or.inl ⟨by kernel_rfl, ?_⟩) (by trivial) ?_
    rotate_left
    ·(intro w hSw; (try dsimp only at hSw); go_simp); (try with_reducible rfl)
    try simp only [Act.put, laS]
    refine wpAnyH_take (i := 12) (v := ?_) rfl (by kernel_rfl) (by kernel_rfl) (by kernel_rfl) (fun _ _ _ h => h) (Or.inl ⟨by kernel_rfl, ?_⟩) (by trivial) ?_
    rotate_left
    ·(intro w hSw; (try dsimp only at hSw); go_simp); (try with_reducible rfl)
    try simp only [Act.put, laS]
    refine wpAnyH_take (i := 13) (v := ?_) rfl (by kernel_rfl) (by kernel_rfl) (by kernel_rfl) (fun _ _ _ h => h) (Or.inl ⟨by kernel_rfl, ?_⟩) (by trivial) ?_
    rotate_left
    ·(intro w hSw; (try dsimp only at hSw); go_simp); (try with_reducible rfl)
    try simp only [Act.put, laS]
    refine wpAnyH_ready (rs := [14]) (by kernel_rfl) (by simp) ?_
    refine AllReadyH.cons rfl (fun K hK => ?_) AllReadyH.nil
    go_simp
    refine hK.out _ _ trivial (fun _ => ?_)
    clear hK K
    try simp only [Act.put, laS]
    refine wpAnyH_done (by kernel_rfl) ?_ _
    have hW2 : World.drew (World.setCell W1 ⟨b, 3, none⟩ (.slice (some ⟨gL, 0, none⟩) q.lo.length capL)) = W2 := HW2.out
    rw [hW2]
    clear hW2
    go_wp2_with fail
    refine wp_region_held_drew (S := fun _ => True) (by kernel_rfl) trivial (fun _ => ?_)
    refine wpAnyH_take (i := 0) (v := ?_) rfl (by kernel_rfl) (by kernel_rfl) (by kernel_rfl) (fun _ _ _ h => h) (Or.inl ⟨by kernel_rfl, ?_⟩) (by trivial) ?_
    rotate_left
    ·(intro w hSw; (try dsimp only at hSw); go_simp); (try with_reducible rfl)
    try simp only [Act.put, laS]
    refine wpAnyH_take (i := 1) (v := ?_) rfl (by kernel_rfl) (by kernel_rfl) (by kernel_rfl) (fun _ _ _ h => h) (Or.inl ⟨by kernel_rfl, ?_⟩) (by trivial) ?_
    rotate_left
    ·(intro w hSw; (try dsimp only at hSw); go_simp); (try with_reducible rfl)
    try simp only [Act.put, laS]
    refine wpAnyH_take (i := 2) (v := ?_) rfl (by kernel_rfl) (by kernel_rfl) (by kernel_rfl) (fun _ _ _ h => h) (Or.inl ⟨by kernel_rfl, ?_⟩) (by trivial) ?_
    rotate_left
    ·(intro w hSw; (try dsimp only at hSw); go_simp); (try with_reducible rfl)
    try simp only [Act.put, laS]
    refine wpAnyH_take (i := 5) (v := ?_) rfl (by kernel_rfl) (by kernel_rfl) (by kernel_rfl) (fun _ _ _ h => h) (Or.inl ⟨by kernel_rfl, ?_⟩) (by trivial) ?_
    rotate_left
    ·(intro w hSw; (try dsimp only at hSw); go_simp); (try with_reducible rfl)
    try simp only [Act.put, laS]
    refine wpAnyH_ready (rs := [3, 6]) (by kernel_rfl) (by simp) ?_
    refine AllReadyH.cons rfl (fun K hK => ?_) (AllReadyH.cons rfl (fun K hK => ?_) AllReadyH.nil)
    ·go_simp
     refine hK.out _ _ trivial (fun _ => ?_)
     clear hK K
     try simp only [Act.put, laS]
     refine wpAnyH_ready (rs := [4, 6]) (by kernel_rfl) (by simp) ?_
     refine AllReadyH.cons rfl (fun K hK => ?_) (AllReadyH.cons rfl (fun K hK => ?_) AllReadyH.nil)
     ·go_simp
      refine (HCH.out W2.drew ((Below.refl _ W2).drew)).mono ?_
      rintro e w5 ⟨rfl, vl5, hE5, hk5⟩
      refine hK.out _ _ trivial (fun _ => ?_)
      clear hK K
      have n5 : w5.cell? ⟨W.heap.size, 1, none⟩ = some (.int .i64 (q.top.n : Int)) := by
       have hh : w5.heap[W.heap.size]? = some (.cells #[.int .i64 (q.top.p : Int), .int .i64 (q.top.n : Int), .slice (some ⟨gi, 0, none⟩) (m + 1) capi, .slice o2 n2 cap2] 55 (0, 0)) := hk5.k _ _ HG2.out (by omega) (fun T hT c fz e => by simp only [List.mem_singleton] at hT; subst hT; cases e)
       exact (cell_of _ _ _ _ hh 1).trans rfl
      have HIT := Lib.hid (eitem_c ⟨7, 0, 0, 0, 0, iv, 0, 0, 0, (q.top.n : Int)⟩ 1 true w5 hE5 HP.out HTI.out)
      have HK5 := Lib.hid hk5.bel
      clear hE5 hk5
      try simp only [Act.put, laS]
      refine wpAnyH_ready (rs := [6]) (by kernel_rfl) (by simp) ?_
      refine AllReadyH.cons rfl (fun K hK => ?_) AllReadyH.nil
      go_simp
      refine hK.out _ _ trivial (fun _ => ?_)
      clear hK K
      try simp only [Act.put, laS]
      refine wpAnyH_take (i := 7) (v := ?_) rfl (by kernel_rfl) (by kernel_rfl) (by kernel_rfl) (fun _ _ _ h => h) (Or.inl ⟨by kernel_rfl, ?_⟩) (by trivial) ?_
      rotate_left
      ·(intro w hSw; (try dsimp only at hSw); go_simp); (try with_reducible rfl)
      try simp only [Act.put, laS]
      refine wpAnyH_ready (rs := [8]) (by kernel_rfl) (by simp) ?_
      refine AllReadyH.cons rfl (fun K hK => ?_) AllReadyH.nil
      go_simp
      refine HIT.out.mono ?_
      rintro e w6 ⟨rfl, ⟨vl6, vt6, hE6⟩, hB6⟩
      have HF := Lib.hid (And.intro hE6 ((HB2.out.trans HK5.out).trans hB6))
      refine hK.out _ _ trivial (fun _ => ?_)
      clear hK K hE6 hB6
      try simp only [Act.put, laS]
      refine wpAnyH_take (i := 9) (v := ?_) rfl (by kernel_rfl) (by kernel_rfl) (by kernel_rfl) (fun _ _ _ h => h) (Or.inl ⟨by kernel_rfl, ?_⟩) (by trivial) ?_
      rotate_left
      ·(intro w hSw; (try dsimp only at hSw); go_simp); (try with_reducible rfl)
      try simp only [Act.put, laS]
      refine wpAnyH_done (by kernel_rfl) ?_ _
      go_wp2
      go_ret
      exact ⟨HF.out.2, rfl, _, _, _, _, HF.out.1⟩
     ·go_simp
      refine hK.out _ _ trivial (fun _ => ?_)
      clear hK K
      try simp only [Act.put, laS]
      refine wpAnyH_ready (rs := [4]) (by kernel_rfl) (by simp) ?_
      refine AllReadyH.cons rfl (fun K hK => ?_) AllReadyH.nil
      go_simp
      refine (HCH.out W2.drew ((Below.refl _ W2).drew)).mono ?_
      rintro e w5 ⟨rfl, vl5, hE5, hk5⟩
      refine hK.out _ _ trivial (fun _ => ?_)
      clear hK K
      have n5 : w5.cell? ⟨W.heap.size, 1, none⟩ = some (.int .i64 (q.top.n : Int)) := by
       have hh : w5.heap[W.heap.size]? = some (.cells #[.int .i64 (q.top.p : Int), .int .i64 (q.top.n : Int), .slice (some ⟨gi, 0, none⟩) (m + 1) capi, .slice o2 n2 cap2] 55 (0, 0)) := hk5.k _ _ HG2.out (by omega) (fun T hT c fz e => by simp only [List.mem_singleton] at hT; subst hT; cases e)
       exact (cell_of _ _ _ _ hh 1).trans rfl
      have HIT := Lib.hid (eitem_c ⟨7, 0, 0, 0, 0, iv, 0, 0, 0, (q.top.n : Int)⟩ 1 true w5 hE5 HP.out HTI.out)
      have HK5 := Lib.hid hk5.bel
      clear hE5 hk5
      try simp only [Act.put, laS]
      refine wpAnyH_take (i := 7) (v := ?_) rfl (by kernel_rfl) (by kernel_rfl) (by kernel_rfl) (fun _ _ _ h => h) (Or.inl ⟨by kernel_rfl, ?_⟩) (by trivial) ?_
      rotate_left
      ·(intro w hSw; (try dsimp only at hSw); go_simp); (try with_reducible rfl)
      try simp only [Act.put, laS]
      refine wpAnyH_ready (rs := [8]) (by kernel_rfl) (by simp) ?_
      refine AllReadyH.cons rfl (fun K hK => ?_) AllReadyH.nil
      go_simp
      refine HIT.out.mono ?_
      rintro e w6 ⟨rfl, ⟨vl6, vt6, hE6⟩, hB6⟩
      have HF := Lib.hid (And.intro hE6 ((HB2.out.trans HK5.out).trans hB6))
      refine hK.out _ _ trivial (fun _ => ?_)
      clear hK K hE6 hB6
      try simp only [Act.put, laS]
      refine wpAnyH_take (i := 9) (v := ?_) rfl (by kernel_rfl) (by kernel_rfl) (by kernel_rfl) (fun _ _ _ h => h) (Or.inl ⟨by kernel_rfl, ?_⟩) (by trivial) ?_
      rotate_left
      ·(intro w hSw; (try dsimp only at hSw); go_simp); (try with_reducible rfl)
      try simp only [Act.put, laS]
      refine wpAnyH_done (by kernel_rfl) ?_ _
      go_wp2
      go_ret
      exact ⟨HF.out.2, rfl, _, _, _, _, HF.out.1⟩
    ·go_simp
     refine hK.out _ _ trivial (fun _ => ?_)
     clear hK K
     try simp only [Act.put, laS]
     refine wpAnyH_ready (rs := [3]) (by kernel_rfl) (by simp) ?_
     refine AllReadyH.cons rfl (fun K hK => ?_) AllReadyH.nil
     go_simp
     refine hK.out _ _ trivial (fun _ => ?_)
     clear hK K
     try simp only [Act.put, laS]
     refine wpAnyH_ready (rs := [4]) (by kernel_rfl) (by simp) ?_
     refine AllReadyH.cons rfl (fun K hK => ?_) AllReadyH.nil
     go_simp
     refine (HCH.out W2.drew ((Below.refl _ W2).drew)).mono ?_
     rintro e w5 ⟨rfl, vl5, hE5, hk5⟩
     refine hK.out _ _ trivial (fun _ => ?_)
     clear hK K
     have n5 : w5.cell? ⟨W.heap.size, 1, none⟩ = some (.int .i64 (q.top.n : Int)) := by
      have hh : w5.heap[W.heap.size]? = some (.cells #[.int .i64 (q.top.p : Int), .int .i64 (q.top.n : Int), .slice (some ⟨gi, 0, none⟩) (m + 1) capi, .slice o2 n2 cap2] 55 (0, 0)) := hk5.k _ _ HG2.out (by omega) (fun T hT c fz e => by simp only [List.mem_singleton] at hT; subst hT; cases e)
      exact (cell_of _ _ _ _ hh 1).trans rfl
     have HIT := Lib.hid (eitem_c ⟨7, 0, 0, 0, 0, iv, 0, 0, 0, (q.top.n : Int)⟩ 1 true w5 hE5 HP.out HTI.out)
     have HK5 := Lib.hid hk5.bel
     clear hE5 hk5
     try simp only [Act.put, laS]
     refine wpAnyH_take (i := 7) (v := ?_) rfl (by kernel_rfl) (by kernel_rfl) (by kernel_rfl) (fun _ _ _ h => h) (Or.inl ⟨by kernel_rfl, ?_⟩) (by trivial) ?_
     rotate_left
     ·(intro w hSw; (try dsimp only at hSw); go_simp); (try with_reducible rfl)
     try simp only [Act.put, laS]
     refine wpAnyH_ready (rs := [8]) (by kernel_rfl) (by simp) ?_
     refine AllReadyH.cons rfl (fun K hK => ?_) AllReadyH.nil
     go_simp
     refine HIT.out.mono ?_
     rintro e w6 ⟨rfl, ⟨vl6, vt6, hE6⟩, hB6⟩
     have HF := Lib.hid (And.intro hE6 ((HB2.out.trans HK5.out).trans hB6))
     refine hK.out _ _ trivial (fun _ => ?_)
     clear hK K hE6 hB6
     try simp only [Act.put, laS]
     refine wpAnyH_take (i := 9) (v := ?_) rfl (by kernel_rfl) (by kernel_rfl) (by kernel_rfl) (fun _ _ _ h => h) (Or.inl ⟨by kernel_rfl, ?_⟩) (by trivial) ?_
     rotate_left
     ·(intro w hSw; (try dsimp only at hSw); go_simp); (try with_reducible rfl)
     try simp only [Act.put, laS]
     refine wpAnyH_done (by kernel_rfl) ?_ _
     go_wp2
     go_ret
     exact ⟨HF.out.2, rfl, _, _, _, _, HF.out.1⟩
   ·go_simp
    refine hK.out _ _ trivial (fun _ => ?_)
    clear hK K
    try simp only [Act.put, laS]
    refine wpAnyH_take (i := 9) (v := ?_) rfl (by kernel_rfl) (by kernel_rfl) (by kernel_rfl) (fun _ _ _ h => h) (Or.inl ⟨by kernel_rfl, ?_⟩) (by trivial) ?_
    rotate_left
    ·(intro w hSw; (try dsimp only at hSw); go_simp); (try with_reducible rfl)
    try simp only [Act.put, laS]
    refine wpAnyH_take (i := 10) (v := ?_) rfl (by kernel_rfl) (by kernel_rfl) (by kernel_rfl) (fun _ _ _ h => h) (Or.inl ⟨by kernel_rfl, ?_⟩) (by trivial) ?_
    rotate_left
    ·(intro w hSw; (try dsimp only at hSw); go_simp); (try with_reducible rfl)
    try simp only [Act.put, laS]
    refine wpAnyH_ready (rs := [4]) (by kernel_rfl) (by simp) ?_
    refine AllReadyH.cons rfl (fun K hK => ?_) AllReadyH.nil
    go_simp
    refine hK.out _ _ trivial (fun _ => ?_)
    clear hK K
    try simp only [Act.put, laS]
    refine wpAnyH_take (i := 11) (v := ?_) rfl (by kernel_rfl) (by kernel_rfl) (by kernel_rfl) (fun _ _ _ h => h) (Or.inl ⟨by kernel_rfl, ?_⟩) (by trivial) ?_
    rotate_left
    ·(intro w hSw; (try dsimp only at hSw); go_simp); (try with_reducible rfl)
    try simp only [Act.put, laS]
    refine wpAnyH_take (i := 12) (v := ?_) rfl (by kernel_rfl) (by kernel_rfl) (by kernel_rfl) (fun _ _ _ h => h) (Or.inl ⟨by kernel_rfl, ?_⟩) (by trivial) ?_
    rotate_left
    ·(intro w hSw; (try dsimp only at hSw); go_simp); (try with_reducible rfl)
    try simp only [Act.put, laS]
    refine wpAnyH_take (i := 13) (v := ?_) rfl (by kernel_rfl) (by kernel_rfl) (by kernel_rfl) (fun _ _ _ h => h) (Or.inl ⟨by kernel_rfl, ?_⟩) (by trivial) ?_
    rotate_left
    ·(intro w hSw; (try dsimp only at hSw); go_simp); (try with_reducible rfl)
    try simp only [Act.put, laS]
    refine wpAnyH_ready (rs := [14]) (by kernel_rfl) (by simp) ?_
    refine AllReadyH.cons rfl (fun K hK => ?_) AllReadyH.nil
    go_simp
    refine hK.out _ _ trivial (fun _ => ?_)
    clear hK K
    try simp only [Act.put, laS]
    refine wpAnyH_done (by kernel_rfl) ?_ _
    have hW2 : World.drew (World.setCell W1 ⟨b, 3, none⟩ (.slice (some ⟨gL, 0, none⟩) q.lo.length capL)) = W2 := HW2.out
    rw [hW2]
    clear hW2
    go_wp2_with fail
    refine wp_region_held_drew (S := fun _ => True) (by kernel_rfl) trivial (fun _ => ?_)
    refine wpAnyH_take (i := 0) (v := ?_) rfl (by kernel_rfl) (by kernel_rfl) (by kernel_rfl) (fun _ _ _ h => h) (Or.inl ⟨by kernel_rfl, ?_⟩) (by trivial) ?_
    rotate_left
    ·(intro w hSw; (try dsimp only at hSw); go_simp); (try with_reducible rfl)
    try simp only [Act.put, laS]
    refine wpAnyH_take (i := 1) (v := ?_) rfl (by kernel_rfl) (by kernel_rfl) (by kernel_rfl) (fun _ _ _ h => h) (Or.inl ⟨by kernel_rfl, ?_⟩) (by trivial) ?_
    rotate_left
    ·(intro w hSw; (try dsimp only at hSw); go_simp); (try with_reducible rfl)
    try simp only [Act.put, laS]
    refine wpAnyH_take (i := 2) (v := ?_) rfl (by kernel_rfl) (by kernel_rfl) (by kernel_rfl) (fun _ _ _ h => h) (Or.inl ⟨by kernel_rfl, ?_⟩) (by trivial) ?_
    rotate_left
    ·(intro w hSw; (try dsimp only at hSw); go_simp); (try with_reducible rfl)
    try simp only [Act.put, laS]
    refine wpAnyH_take (i := 5) (v := ?_) rfl (by kernel_rfl) (by kernel_rfl) (by kernel_rfl) (fun _ _ _ h => h) (Or.inl ⟨by kernel_rfl, ?_⟩) (by trivial) ?_
    rotate_left
    ·(intro w hSw; (try dsimp only at hSw); go_simp); (try with_reducible rfl)
    try simp only [Act.put, laS]
    refine wpAnyH_ready (rs := [3, 6]) (by kernel_rfl) (by simp) ?_
    refine AllReadyH.cons rfl (fun K hK => ?_) (AllReadyH.cons rfl (fun K hK => ?_) AllReadyH.nil)
    ·go_simp
     refine hK.out _ _ trivial (fun _ => ?_)
     clear hK K
     try simp only [Act.put, laS]
     refine wpAnyH_ready (rs := [4, 6]) (by kernel_rfl) (by simp) ?_
     refine AllReadyH.cons rfl (fun K hK => ?_) (AllReadyH.cons rfl (fun K hK => ?_) AllReadyH.nil)
     ·go_simp
      refine (HCH.out W2.drew ((Below.refl _ W2).drew)).mono ?_
      rintro e w5 ⟨rfl, vl5, hE5, hk5⟩
      refine hK.out _ _ trivial (fun _ => ?_)
      clear hK K
      have n5 : w5.cell? ⟨W.heap.size, 1, none⟩ = some (.int .i64 (q.top.n : Int)) := by
       have hh : w5.heap[W.heap.size]? = some (.cells #[.int .i64 (q.top.p : Int), .int .i64 (q.top.n : Int), .slice (some ⟨gi, 0, none⟩) (m + 1) capi, .slice o2 n2 cap2] 55 (0, 0)) := hk5.k _ _ HG2.out (by omega) (fun T hT c fz e => by simp only [List.mem_singleton] at hT; subst hT; cases e)
       exact (cell_of _ _ _ _ hh 1).trans rfl
      have HIT := Lib.hid (eitem_c ⟨7, 0, 0, 0, 0, iv, 0, 0, 0, (q.top.n : Int)⟩ 1 true w5 hE5 HP.out HTI.out)
      have HK5 := Lib.hid hk5.bel
      clear hE5 hk5
      try simp only [Act.put, laS]
      refine wpAnyH_ready (rs := [6]) (by kernel_rfl) (by simp) ?_
      refine AllReadyH.cons rfl (fun K hK => ?_) AllReadyH.nil
      go_simp
      refine hK.out _ _ trivial (fun _ => ?_)
      clear hK K
      try simp only [Act.put, laS]
      refine wpAnyH_take (i := 7) (v := ?_) rfl (by kernel_rfl) (by kernel_rfl) (by kernel_rfl) (fun _ _ _ h => h) (Or.inl ⟨by kernel_rfl, ?_⟩) (by trivial) ?_
      rotate_left
      ·(intro w hSw; (try dsimp only at hSw); go_simp); (try with_reducible rfl)
      try simp only [Act.put, laS]
      refine wpAnyH_ready (rs := [8]) (by kernel_rfl) (by simp) ?_
      refine AllReadyH.cons rfl (fun K hK => ?_) AllReadyH.nil
      go_simp
      refine HIT.out.mono ?_
      rintro e w6 ⟨rfl, ⟨vl6, vt6, hE6⟩, hB6⟩
      have HF := Lib.hid (And.intro hE6 ((HB2.out.trans HK5.out).trans hB6))
      refine hK.out _ _ trivial (fun _ => ?_)
      clear hK K hE6 hB6
      try simp only [Act.put, laS]
      refine wpAnyH_take (i := 9) (v := ?_) rfl (by kernel_rfl) (by kernel_rfl) (by kernel_rfl) (fun _ _ _ h => h) (Or.inl ⟨by kernel_rfl, ?_⟩) (by trivial) ?_
      rotate_left
      ·(intro w hSw; (try dsimp only at hSw); go_simp); (try with_reducible rfl)
      try simp only [Act.put, laS]
      refine wpAnyH_done (by kernel_rfl) ?_ _
      go_wp2
      go_ret
      exact ⟨HF.out.2, rfl, _, _, _, _, HF.out.1⟩
     ·go_simp
      refine hK.out _ _ trivial (fun _ => ?_)
      clear hK K
      try simp only [Act.put, laS]
      refine wpAnyH_ready (rs := [4]) (by kernel_rfl) (by simp) ?_
      refine AllReadyH.cons rfl (fun K hK => ?_) AllReadyH.nil
      go_simp
      refine (HCH.out W2.drew ((Below.refl _ W2).drew)).mono ?_
      rintro e w5 ⟨rfl, vl5, hE5, hk5⟩
      refine hK.out _ _ trivial (fun _ => ?_)
      clear hK K
      have n5 : w5.cell? ⟨W.heap.size, 1, none⟩ = some (.int .i64 (q.top.n : Int)) := by
       have hh : w5.heap[W.heap.size]? = some (.cells #[.int .i64 (q.top.p : Int), .int .i64 (q.top.n : Int), .slice (some ⟨gi, 0, none⟩) (m + 1) capi, .slice o2 n2 cap2] 55 (0, 0)) := hk5.k _ _ HG2.out (by omega) (fun T hT c fz e => by simp only [List.mem_singleton] at hT; subst hT; cases e)
       exact (cell_of _ _ _ _ hh 1).trans rfl
      have HIT := Lib.hid (eitem_c ⟨7, 0, 0, 0, 0, iv, 0, 0, 0, (q.top.n : Int)⟩ 1 true w5 hE5 HP.out HTI.out)
      have HK5 := Lib.hid hk5.bel
      clear hE5 hk5
      try simp only [Act.put, laS]
      refine wpAnyH_take (i := 7) (v := ?_) rfl (by kernel_rfl) (by kernel_rfl) (by kernel_rfl) (fun _ _ _ h => h) (Or.inl ⟨by kernel_rfl, ?_⟩) (by trivial) ?_
      rotate_left
      ·(intro w hSw; (try dsimp only at hSw); go_simp); (try with_reducible rfl)
      try simp only [Act.put, laS]
      refine wpAnyH_ready (rs := [8]) (by kernel_rfl) (by simp) ?_
      refine AllReadyH.cons rfl (fun K hK => ?_) AllReadyH.nil
      go_simp
      refine HIT.out.mono ?_
      rintro e w6 ⟨rfl, ⟨vl6, vt6, hE6⟩, hB6⟩
      have HF := Lib.hid (And.intro hE6 ((HB2.out.trans HK5.out).trans hB6))
      refine hK.out _ _ trivial (fun _ => ?_)
      clear hK K hE6 hB6
      try simp only [Act.put, laS]
      refine wpAnyH_take (i := 9) (v := ?_) rfl (by kernel_rfl) (by kernel_rfl) (by kernel_rfl) (fun _ _ _ h => h) (Or.inl ⟨by kernel_rfl, ?_⟩) (by trivial) ?_
      rotate_left
      ·(intro w hSw; (try dsimp only at hSw); go_simp); (try with_reducible rfl)
      try simp only [Act.put, laS]
      refine wpAnyH_done (by kernel_rfl) ?_ _
      go_wp2
      go_ret
      exact ⟨HF.out.2, rfl, _, _, _, _, HF.out.1⟩
    ·go_simp
     refine hK.out _ _ trivial (fun _ => ?_)
     clear hK K
     try simp only [Act.put, laS]
     refine wpAnyH_ready (rs := [3]) (by kernel_rfl) (by simp) ?_
     refine AllReadyH.cons rfl (fun K hK => ?_) AllReadyH.nil
     go_simp
     refine hK.out _ _ trivial (fun _ => ?_)
     clear hK K
     try simp only [Act.put, laS]
     refine wpAnyH_ready (rs := [4]) (by kernel_rfl) (by simp) ?_
     refine AllReadyH.cons rfl (fun K hK => ?_) AllReadyH.nil
     go_simp
     refine (HCH.out W2.drew ((Below.refl _ W2).drew)).mono ?_
     rintro e w5 ⟨rfl, vl5, hE5, hk5⟩
     refine hK.out _ _ trivial (fun _ => ?_)
     clear hK K
     have n5 : w5.cell? ⟨W.heap.size, 1, none⟩ = some (.int .i64 (q.top.n : Int)) := by
      have hh : w5.heap[W.heap.size]? = some (.cells #[.int .i64 (q.top.p : Int), .int .i64 (q.top.n : Int), .slice (some ⟨gi, 0, none⟩) (m + 1) capi, .slice o2 n2 cap2] 55 (0, 0)) := hk5.k _ _ HG2.out (by omega) (fun T hT c fz e => by simp only [List.mem_singleton] at hT; subst hT; cases e)
      exact (cell_of _ _ _ _ hh 1).trans rfl
     have HIT := Lib.hid (eitem_c ⟨7, 0, 0, 0, 0, iv, 0, 0, 0, (q.top.n : Int)⟩ 1 true w5 hE5 HP.out HTI.out)
     have HK5 := Lib.hid hk5.bel
     clear hE5 hk5
     try simp only [Act.put, laS]
     refine wpAnyH_take (i := 7) (v := ?_) rfl (by kernel_rfl) (by kernel_rfl) (by kernel_rfl) (fun _ _ _ h => h) (Or.inl ⟨by kernel_rfl, ?_⟩) (by trivial) ?_
     rotate_left
     ·(intro w hSw; (try dsimp only at hSw); go_simp); (try with_reducible rfl)
     try simp only [Act.put, laS]
     refine wpAnyH_ready (rs := [8]) (by kernel_rfl) (by simp) ?_
     refine AllReadyH.cons rfl (fun K hK => ?_) AllReadyH.nil
     go_simp
     refine HIT.out.mono ?_
     rintro e w6 ⟨rfl, ⟨vl6, vt6, hE6⟩, hB6⟩
     have HF := Lib.hid (And.intro hE6 ((HB2.out.trans HK5.out).trans hB6))
     refine hK.out _ _ trivial (fun _ => ?_)
     clear hK K hE6 hB6
     try simp only [Act.put, laS]
     refine wpAnyH_take (i := 9) (v := ?_) rfl (by kernel_rfl) (by kernel_rfl) (by kernel_rfl) (fun _ _ _ h => h) (Or.inl ⟨by kernel_rfl, ?_⟩) (by trivial) ?_
     rotate_left
     ·(intro w hSw; (try dsimp only at hSw); go_simp); (try with_reducible rfl)
     try simp only [Act.put, laS]
     refine wpAnyH_done (by kernel_rfl) ?_ _
     go_wp2
     go_ret
     exact ⟨HF.out.2, rfl, _, _, _, _, HF.out.1⟩
end
end Go.Proofs.YtdjcgjkbecncaaaGreatDoor
