/- Split. -/
import Derived.Test.YtkdnnhjoeaoihaaTbK
namespace Go.Proofs.Ytkdnnhjoeaoihaa
open Go.RowKit Go.Shelf
set_option linter.unusedVariables false
set_option linter.unusedSimpArgs false

attribute [local go_sem] Oper.semAt_some

theorem infoTL : (Try.prog.info? 42).map (fun i => (i.zero, i.size, i.bytes)) = some (some (.agg #[.string ByteArray.empty, .bool false]), 2, 24) := by kernel_rfl
theorem heap_kept {A B : World} {row : Option Nat} {b : Nat} {cs : Array Value} {T : TypeId} {f : Nat × Nat} (h : A.heap[b]? = some (.cells cs T f)) (hg : A.grownBy B row) (hr : ∀ r, row = some r → ∃ o, A.heap[r]? = some o ∧ o.isCells = false) : B.heap[b]? = some (.cells cs T f) := by
  refine (hg.block b (Array.getElem?_eq_some_iff.1 h).1 (fun e => ?_)).trans h
  obtain ⟨o, ho, hc⟩ := hr b e.symm
  rw [h] at ho; cases ho; cases hc
theorem lrow_snoc1 (pre : List Ln) (x : Ln) : lrow (pre ++ [x]) = lrow pre ++ lcs x := by rw [lrow_app]; simp [lrow]

theorem news_one (W : World) (x : Ln) (T : TypeId) : ∀ j u, (lcs x)[j]? = some u → (W.alloc (.cells #[.string x.1, .bool x.2] T)).cell? ((⟨W.heap.size, 0, none⟩ : Addr).add j) = some u := by
  intro j u hj
  rw [Addr.add_lit, Nat.zero_add, cell_of _ _ _ _ (heap_new W _)]
  simpa [lcs] using hj
theorem lrow_one1 (x : Ln) : ∀ u ∈ lcs x, u.oneCell' = true := by
  intro u hu
  simp [lcs] at hu
  rcases hu with rfl | rfl <;> rfl

set_option maxRecDepth 100000 in
set_option maxHeartbeats 4000000 in
theorem split_in (s : List UInt8) (hs : s.length ≤ 100000) (w : World) :
    CallsIn Fence.wide 5 Try.prog 23 #[.string ⟨s.toArray⟩] w fun e w' => (∃ q n cap, e = .returned (.slice q n cap) ∧ Lines w' q n cap (spl s)) ∧ Below w.heap.size w w' := by
  obtain ⟨i0, hi, hz0, hz1, hz2⟩ := info_parts infoTL
  obtain ⟨t0, ht0⟩ : ∃ t : ByteArray, t = ⟨s.toArray⟩ := ⟨_, rfl⟩
  rw [← ht0]
  have HT0 := Lib.hid ht0
  clear ht0
  have HM := Lib.hid (fun w => linesmk_c t0 w)
  refine callsIn_of_wp_marks Try.func23 rfl trivial ?_ rfl
  simp only [Try.ntmps23, List.size_toArray, List.length_cons, List.length_nil, Nat.reduceAdd, Nat.reduceSub, Array.replicate_succ, Array.replicate_zero, List.push_toArray, List.append_toArray, List.nil_append, List.cons_append]
  gi_wp2_with ((try refine ⟨trivial, ?_⟩); gi_at_call 32; refine (callsIn_wide.2 (HM.out _)).mono ?_; rintro e w' ⟨rfl, rfl⟩)
  obtain ⟨W0, hW0⟩ : ∃ W0, W0 = ((w.alloc (.cells #[.slice none 0 0] 40)).alloc (.cells #[.string t0] 9)) := ⟨_, rfl⟩
  rw [← hW0]
  have hsz : W0.heap.size = w.heap.size + 2 := by rw [hW0]; simp
  have hBW : Below w.heap.size w W0 := by rw [hW0]; exact ((Below.refl _ w).alloc (Nat.le_refl _) _).alloc (by simp) _
  have bO : Boxed W0 w.heap.size 40 (.slice none 0 0) := by rw [hW0]; exact (Boxed.new w _ _).alloc _
  have hcS : W0.cell? ⟨w.heap.size + 1, 0, none⟩ = some (.string ⟨s.toArray⟩) := by
    have := heap_new (w.alloc (.cells #[.slice none 0 0] 40)) (.cells #[.string t0] 9)
    rw [World.size_alloc, ← hW0] at this
    rw [cell_of _ _ _ _ this, HT0.out]; rfl
  clear hW0
  refine wpIn_rangeFunc_ownH rfl (by omega) (gf := 37) (lb := #[.pointer (some ⟨w.heap.size + 1, 0, none⟩)]) rfl trivial (enters_of Try.func37 (by kernel_rfl) rfl)
    (lines_stops (5 - 1) (by omega) (w.heap.size + 1) w.heap.size s (by omega) W0 hcS (by omega)) belowK_t (belowK_b (by omega)) (Below.refl _ _) (fun _ => rfl)
    (fun pre W => (∃ v, Boxed W w.heap.size 40 v ∧ W.ownsRow w.heap.size 42 2 v pre.length (lrow pre) ∧ True) ∧ Below w.heap.size w W)
    (fun _ _ _ => False)
    (OwnFrom.and (Own.from (holdsRow_own w.heap.size w.heap.size 40 42 2 (fun pre => pre.length) (fun pre => lrow pre) (fun _ _ => True)) _) (ownFrom_below (Nat.le_refl _) (by omega)))
    (fun _ _ _ _ _ hs _ _ => hs)
    ⟨⟨_, bO, World.ownsRow_nil _ _ _ _, trivial⟩, hBW⟩
    (fun x a' W => ∃ Bx, w.heap.size < Bx ∧ W.heap[Bx]? = some (.cells #[.string x.1, .bool x.2] 42 (0, 0)) ∧ a' = { tmps := #[.string t0, undef, .slice none 0 0, .pointer (some ⟨w.heap.size, 0, none⟩), .pointer (some ⟨Bx, 0, none⟩), .string t0, .func (.func 37) #[] #[.pointer (some ⟨w.heap.size + 1, 0, none⟩)], .agg #[.string x.1, .bool x.2], undef, undef, undef, undef, undef], defers := [] })
    (fun x a' => Own.from (fun _ A B row ⟨Bx, h1, h2, h3⟩ hg hr => ⟨Bx, h1, heap_kept h2 hg hr, h3⟩) _) ?assign ?body ?done ?stop
  case assign =>
    rintro l pre x W K ⟨⟨v, hv, hrow, _⟩, hB⟩ hK
    gi_wp2
    exact hK _ _ ((KeepsOthers.alloc _ _).from _) ((Below.refl _ W).alloc hB.size _) ⟨⟨_, hv.alloc _, hrow.alloc _, trivial⟩, hB.alloc hB.size _⟩ ⟨W.heap.size, hv.lt, heap_new W _, rfl⟩
  case body =>
    rintro l pre x a' W hl hr ⟨⟨v, hv, hrow, _⟩, hB⟩ ⟨Bx, hBx, bX, rfl⟩ hlt
    have hc := hv.cell
    have x0 : W.cell? ⟨Bx, 0, none⟩ = some (.string x.1) := by rw [cell_of _ _ _ _ bX]; rfl
    have x1 : W.cell? ⟨Bx, 1, none⟩ = some (.bool x.2) := by rw [cell_of _ _ _ _ bX]; rfl
    have hlS := HT0.out
    clear hr bX
    gi_wp2_with (gi_at_builtin; refine wpListIn_append_own _ rfl _ _ 40 rfl w.heap.size 42 i0 (.agg #[.string ByteArray.empty, .bool false]) 2 24 Try.underlying40 hi hz0 hz1 hz2 rfl (by decide) _ _ _ rfl (hrow.alloc _) ⟨W.heap.size, 0, none⟩ 1 1 (lcs x) rfl rfl (news_one W x _) (lrow_one1 x) (by unfold maxLen; omega) (by omega) (by have := hB.size; simp; omega) ?_; intro v' w1' hown' hgrow' _; obtain ⟨g', cap', rfl⟩ := ownsRow_succ hown'; obtain ⟨hv1, hv2, hr2, hk2, hb2⟩ := hv.appended (by decide) hrow hB.size (by omega) hown' hgrow'; have hc1 := hv1.cell; have hf1 := hv1.frozen)
    refine ⟨hk2.from _, hb2, ⟨_, hv2, ?_, trivial⟩, hB.trans hb2⟩
    rw [lrow_snoc1]
    simpa using hr2
  case done =>
    rintro D ys W hD rfl ⟨⟨v, hv, hrow, _⟩, hB⟩ hK
    have hc := hv.cell
    gi_wp2
    refine ⟨by simp, .inl ⟨_, _, rfl, run_takeDeferred hK, ?_⟩⟩
    obtain ⟨q, cap, rfl, hL, _⟩ := lines_of_own (ownsRow_putObj hrow (.deferred none) hK rfl)
    exact ⟨_, results_tmp rfl _ _ _, ⟨_, _, _, rfl, hL⟩, hB.trans (belowK_b (w := w) (Nat.le_refl _) W D _ _ (by omega) hK rfl rfl)⟩
  case stop =>
    rintro D c pre W _ _ h _
    exact h.elim

theorem split_c (s : List UInt8) (hs : s.length ≤ 100000) (w : World) :
    Calls Try.prog 23 #[.string ⟨s.toArray⟩] w fun e w' => (∃ q n cap, e = .returned (.slice q n cap) ∧ Lines w' q n cap (spl s)) ∧ Below w.heap.size w w' :=
  (callsIn_wide (n := 5)).1 (split_in s hs w)

end Go.Proofs.Ytkdnnhjoeaoihaa
