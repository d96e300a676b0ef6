/- find: the iterator of what is found. -/
import Derived.Test.YtgllmhheahlpjaaGreatDoorJFdC
import Derived.Test.YtgllmhheahlpjaaGreatDoorJMdN
import Derived.Deep.QuietTactic
import Derived.BigQuiet
set_option linter.unusedVariables false
set_option linter.unusedSimpArgs false
set_option maxRecDepth 100000
set_option maxHeartbeats 40000000
namespace Go.Proofs.YtgllmhheahlpjaaGreatDoor
open Go.RowKit Go.Shelf
attribute [local go_sem] Oper.semAt_some
def KB (n₀ Bl Bt β : Nat) (X Y : World) : Prop := Below n₀ X Y ∧ Y.heap[Bl]? = X.heap[Bl]? ∧ Y.heap[Bt]? = X.heap[Bt]? ∧ Y.heap[β]? = X.heap[β]?
theorem KB.trans {n₀ Bl Bt β : Nat} {X Y Z : World} (h : KB n₀ Bl Bt β X Y) (k : KB n₀ Bl Bt β Y Z) : KB n₀ Bl Bt β X Z :=
 ⟨h.1.trans k.1, k.2.1.trans h.2.1, k.2.2.1.trans h.2.2.1, k.2.2.2.trans h.2.2.2⟩
section
variable {p : Option Addr} {n cap : Nat} {s : List UInt8} {w : World} {C : Nat → Cp} {F : Nat → Option Nat}
def muF (n b : Nat) (v : Value) (W : World) : Nat := match v with
 | .bool true => n + 2 - mOf W b
 | _ => 0
theorem muF_lt {N b m : Nat} {q : Option (Nat × Nat)} {X : World} (hb : Blk X b (cH (capP C q)) 27) (h : ∀ x, q = some x → capP C q 0 = some x ∧ m < x.2 ∧ x.2 ≤ N) (hn : N ≤ 9) (hm : m ≤ N) : muF N b (.bool q.isSome) X < N + 2 - m := by
 cases q with
 | none => show 0 < _; omega
 | some x =>
  obtain ⟨h1, h2, h3⟩ := h x rfl
  have := capBlk.at hb 0 (by decide)
  rw [h1] at this
  show N + 2 - mOf X b < _
  rw [mOf_at (i := x.1) (m := x.2) this (by omega)]
  omega
theorem finds1_in (h : FindF p n cap s w C F) (nn : Nat) (hn : 1 ≤ nn) (l Bl Bt : Nat) (J : Nat → List (Nat × Nat) → World → Prop) (W : World) (hBw : Below w.heap.size w W) (hBl : Bl < W.heap.size) (hBt : Bt < W.heap.size)
  (cl : W.cell? ⟨Bl, 0, none⟩ = some (.slice p n cap)) (ct : W.cell? ⟨Bt, 0, none⟩ = some (.string ⟨s.toArray⟩))
  (hst : ∀ β s X Y r, W.heap.size ≤ β → J β s X → X.grownBy Y r → (∀ k, r = some k → W.heap.size ≤ k ∧ (k = β ∨ ∃ o : Obj, X.heap[k]? = some o ∧ o.isWalk = true)) → J β s Y)
  (hY : ∀ β pre x X, W.heap.size ≤ β → β < X.heap.size → J β pre X → pre.length < s.length + 2 → YieldAt Fence.wide (nn - 1) Tryz.prog l #[capV (C x.1)] X fun e Y => e = .returned (.bool true) ∧ J β (pre ++ [x]) Y ∧ KB w.heap.size Bl Bt β X Y)
  (h0 : ∀ β, W.heap.size ≤ β → J β [] W) :
  CallsIn Fence.wide nn Tryz.prog 84 #[.func (.yield l) #[] #[], .pointer (some ⟨Bl, 0, none⟩), .pointer (some ⟨Bt, 0, none⟩)] W fun e Y => (∃ v, e = .returned v) ∧ ∃ xs β, xs = allP F s.length ∧ W.heap.size ≤ β ∧ J β xs Y := by
 have HH := Lib.hid h
 have HF0 := Lib.hid (ffirst_c h 0 0 (by omega) (by omega) W hBw)
 have HNX := Lib.hid (fun (k : Nat) (hk : k ≤ s.length) => fnext_c h k hk)
 have HST := Lib.hid hst
 have HY := Lib.hid hY
 have H0 := Lib.hid h0
 have HBW := Lib.hid (And.intro hBw (And.intro hBl hBt))
 obtain ⟨T0, hT0⟩ : ∃ t : ByteArray, t = ⟨s.toArray⟩ := ⟨_, rfl⟩
 rw [← hT0] at ct HF0
 have HT0 := Lib.hid hT0
 obtain ⟨q, hq⟩ : ∃ q, q = fstP F s.length 0 := ⟨_, rfl⟩
 rw [← hq] at HF0
 have HQ := Lib.hid hq
 have hlen := h.len
 clear h hst hY h0 hBw hBl hBt hT0 hq
 refine callsIn_of_wp Tryz.func84 rfl trivial ?_ rfl
 simp only [Tryz.ntmps84, List.size_toArray, List.length_cons, List.length_nil, Nat.reduceAdd, Nat.reduceSub, Array.replicate_succ, Array.replicate_zero, List.push_toArray, List.append_toArray, List.nil_append, List.cons_append]
 gi_wp2_with fail
 refine ⟨trivial, ?_⟩
 refine (callsIn_wide.2 HF0.out).mono ?_
 rintro e w2 ⟨rfl, hB2⟩
 obtain ⟨Y, hYq⟩ : ∃ Y, Y = capP C q := ⟨_, rfl⟩
 rw [← hYq]
 have hbY := capBlk w2 Y
 have l2 := hB2.size
 have hB3 : Below W.heap.size W (w2.alloc (.cells (cH Y) 27)) := hB2.alloc l2 _
 obtain ⟨b, hb⟩ : ∃ b, b = w2.heap.size := ⟨_, rfl⟩
 rw [← hb] at hbY
 have hbw : W.heap.size ≤ b := by omega
 have HB := Lib.hid (And.intro hb hbw)
 have H3 := Lib.hid (And.intro hbY hB3)
 have HYQ := Lib.hid hYq
 clear hbY hB3 hYq hB2 l2 HF0 hb hbw
 unfold capV
 gi_wp2
 rw [← HB.out.1]
 gi_loopw [5] (fun v wr => ∃ (q : Option (Nat × Nat)) (pre : List (Nat × Nat)) (f : Nat), v = .bool q.isSome ∧ f + pre.length = s.length + 2 ∧ pre ++ goP F s.length f q = allP F s.length ∧ (∀ x, q = some x → F x.1 = some x.2 ∧ pre.length ≤ x.2 ∧ x.2 ≤ s.length) ∧ J b pre wr ∧ Blk wr b (cH (capP C q)) 27 ∧ wr.heap[Bl]? = W.heap[Bl]? ∧ wr.heap[Bt]? = W.heap[Bt]? ∧ Below w.heap.size w wr ∧ W.heap.size ≤ wr.heap.size) (fun v wr => muF s.length b v wr)
 case atStart =>
  refine ⟨q, [], s.length + 2, rfl, by simp, ?_, fun x hx => ?_, ?_, ?_, H3.out.2.block _ HBW.out.2.1, H3.out.2.block _ HBW.out.2.2, HBW.out.1.trans (H3.out.2.mono HBW.out.1.size), H3.out.2.size⟩
  ·rw [HQ.out]; rfl
  ·obtain ⟨i, m⟩ := x
   have hf := fst_some HH.out.bd (show fstP F s.length 0 = some (i, m) by rw [← HQ.out, hx])
   exact ⟨hf.2.2.2.1, Nat.zero_le _, hf.2.2.1⟩
  ·exact HST.out b [] _ _ none HB.out.2 (H0.out b HB.out.2) (grown_belowF H3.out.2) (fun k e => by cases e)
  ·rw [← HYQ.out]; exact H3.out.1
 case round =>
  obtain ⟨q, pre, f, rfl, hfp, hall, hx, hJ, hbk, hbl, hbt, hBr, hsz⟩ := hrel
  cases q with
  | none =>
   rw [go_none, List.append_nil] at hall
   have HE := Lib.hid (And.intro hall hJ)
   clear hall hJ hx hfp hbk hbl hbt hBr
   simp only [Option.isSome_none]
   gi_wp2
   refine ⟨fun f e => (by cases e), ?_⟩
   gi_wp2
   go_end0
   exact ⟨⟨_, rfl⟩, pre, b, HE.out.1, HB.out.2, HE.out.2⟩
  | some x =>
   obtain ⟨i, m⟩ := x
   obtain ⟨hFi, hpm, hmn⟩ := hx _ rfl
   simp only at hFi hpm hmn
   have him := HH.out.bd i m hFi
   obtain ⟨f, rfl⟩ : ∃ f', f = f' + 1 := ⟨f - 1, by omega⟩
   rw [goP] at hall
   obtain ⟨Y, hY⟩ : ∃ Y, Y = C i := ⟨_, rfl⟩
   rw [show capP C (some (i, m)) = Y from hY.symm] at hbk
   have hY0 : Y 0 = some (i, m) := by rw [hY]; exact HH.out.at0 i m hFi
   have hmu : muF s.length b (.bool true) wr = s.length + 2 - m := by
    have := capBlk.at hbk 0 (by decide)
    rw [hY0] at this
    unfold muF
    rw [mOf_at this (by omega)]
   have hyl := HY.out b pre (i, m) wr HB.out.2 hbk.lt hJ (by omega)
   rw [show C (i, m).1 = Y from hY.symm] at hyl
   have HYL := Lib.hid hyl
   have HA := Lib.hid (And.intro hall (And.intro hfp (And.intro hpm (And.intro hmn hmu))))
   have HBR := Lib.hid (And.intro hbk (And.intro hbl (And.intro hbt (And.intro hBr hsz))))
   obtain ⟨k0, k1, k2, k3, k4, k5, k6, k7, k8, k9⟩ := capBlk.ten hbk
   have HY0 := Lib.hid hY0
   have HTO : Hid (∀ w, Calls Tryz.prog 37 #[spV (Y 0)] w fun e w' => e = .returned (.int .i64 (m : Int)) ∧ w' = w) := Lib.hid (fun w => by
    have := to_sp (Y 0) (fun x y e => by rw [hY0] at e; cases e; omega) w
    rw [show toO (Y 0) = (m : Int) by rw [hY0]; rfl] at this; exact this)
   clear hall hfp hx hFi hpm hJ hbk hbl hbt hBr hsz hY hY0 hmu hyl
   obtain ⟨fn, tmps, assign, body, hy, hR⟩ := HYL.out
   try dsimp only at hy
   unfold capV at hy
   simp only [Option.isSome_some]
   gi_wp2_with fail
   refine hR.mono ?_
   rintro e W3 ⟨rfl, hJ3, hk3⟩
   have hb3 : Below w.heap.size w W3 := HBR.out.2.2.2.1.trans hk3.1
   have hbk3 : Blk W3 b (cH Y) 27 := ⟨hk3.2.2.2.trans HBR.out.1.heap⟩
   have cl3 : W3.cell? ⟨Bl, 0, none⟩ = some (.slice p n cap) := (World.cell?_of_block (a := ⟨Bl, 0, none⟩) (hk3.2.1.trans HBR.out.2.1)).trans cl
   have ct3 : W3.cell? ⟨Bt, 0, none⟩ = some (.string T0) := (World.cell?_of_block (a := ⟨Bt, 0, none⟩) (hk3.2.2.1.trans HBR.out.2.2.1)).trans ct
   obtain ⟨q2, hq2⟩ : ∃ q2, q2 = nxtP F s.length m := ⟨_, rfl⟩
   have hnx := HNX.out m HA.out.2.2.2.1
   unfold NextK at hnx
   rw [← hq2, ← HT0.out] at hnx
   obtain ⟨Z, hZ⟩ : ∃ Z, Z = capP C q2 := ⟨_, rfl⟩
   rw [← hZ] at hnx
   have HNC := Lib.hid (fun X (hX : Below w.heap.size w X) => hnx X hX)
   have HQ2 := Lib.hid (And.intro hq2 hZ)
   have H3 := Lib.hid (And.intro hb3 (And.intro hbk3 (And.intro hJ3 hk3)))
   have kk0 : W3.cell? ⟨b, 0, none⟩ = some (spV (Y 0)) := capBlk.at hbk3 0 (by decide)
   have hmx : Tryz.prog.follows .mixedOrders = true := by kernel_rfl
   clear hb3 hbk3 hq2 hnx hZ hJ3 hk3 k0 k1 k2 k3 k4 k5 k6 k7 k8 k9
   unfold capV at HNC
   gi_wp2
   gi_region_with_o (first
    | (refine ⟨trivial, ?_⟩; gi_at_call 37; refine (callsIn_wide.2 (HTO.out _)).mono ?_; rintro e w' ⟨rfl, rfl⟩)
    | (refine ⟨trivial, ?_⟩; gi_at_call 85; refine (callsIn_wide.2 (HNC.out _ H3.out.1.drew)).mono ?_; rintro e w5 ⟨rfl, hB5⟩; have hbk5 : Blk w5 b (cH Y) 27 := H3.out.2.1.drew.below hB5 H3.out.2.1.lt; obtain ⟨r0, r1, r2, r3, r4, r5, r6, r7, r8, r9, f0, f1, f2, f3, f4, f5, f6, f7, f8, f9⟩ := VRow.rf10 (V := fun g => spV (Y g)) ⟨hbk5.heap⟩))
   all_goals (
    gi_wp2
    simp only [Act.put, List.getElem_toArray, List.getElem_cons_succ, List.getElem_cons_zero, List.setIfInBounds_toArray, List.set_cons_succ, List.set_cons_zero]
    have hks := kp10 (w := w5) (b := b) Z
    have hz5 := cap_store hbk5 Z
    have hg5 : W3.grownBy w5 none := ⟨hB5.os, hB5.tape, hB5.output, hB5.size, fun k hk _ => hB5.block k hk⟩
    have hxx : ∀ x, q2 = some x → F x.1 = some x.2 ∧ m < x.2 ∧ x.2 ≤ s.length := fun x hx => by
     obtain ⟨i', m'⟩ := x
     have := nxt_some HH.out.bd (show nxtP F s.length m = some (i', m') by rw [← HQ2.out.1, hx])
     exact ⟨this.2.2.2.2.1, this.2.2.1, this.2.2.2.1⟩
    have hlW3 : W.heap.size ≤ W3.heap.size := Nat.le_trans HBR.out.2.2.2.2 (Nat.le_trans (Nat.le_refl _) (by have := H3.out.2.1.lt; have := HB.out.2; have := H3.out.2.2.2.1.size; omega))
    have hlw5 := hB5.size
    have hlw5' : W3.heap.size ≤ w5.heap.size := hlw5
    have hj5 := HST.out b _ _ _ (some b) HB.out.2 (HST.out b _ _ _ none HB.out.2 H3.out.2.2.1 hg5 (fun k e => by cases e)) (cap_grown w5 b Z) (fun k e => by cases e; exact ⟨HB.out.2, .inl rfl⟩)
    have hl5 : ∀ j, j < W.heap.size → (sC10 w5 b Z).heap[j]? = W3.heap[j]? := fun j hj => (hks.block j (by omega) (by show ¬ j = b; have := HB.out.2; omega)).trans (hB5.block j (by show j < W3.heap.size; omega))
    go_roundw
    case rel => exact ⟨q2, pre ++ [(i, m)], f, rfl, by have := HA.out.2.1; simp; omega, by rw [← HA.out.1, HQ2.out.1]; simp, fun x hx => ⟨(hxx x hx).1, by have := (hxx x hx).2.1; have := HA.out.2.2.1; simp; omega, (hxx x hx).2.2⟩, hj5, by rw [← HQ2.out.2]; exact hz5, (hl5 Bl HBW.out.2.1).trans (H3.out.2.2.2.2.1.trans HBR.out.2.1), (hl5 Bt HBW.out.2.2).trans (H3.out.2.2.2.2.2.1.trans HBR.out.2.2.1), H3.out.1.trans ((Below.trans (⟨hB5.os, hB5.tape, hB5.output, hB5.size, fun k hk => hB5.block k (by show k < W3.heap.size; have := H3.out.1.size; omega)⟩ : Below w.heap.size W3 w5) (hks.below (by have := H3.out.1.size; omega) (fun i e => by subst e; have := HB.out.2; have := HBW.out.1.size; omega)))), Nat.le_trans hlW3 (Nat.le_trans hlw5' hks.size)⟩
    case measure =>
     rw [HA.out.2.2.2.2]
     refine muF_lt (C := C) (by rw [← HQ2.out.2]; exact hz5) (fun x hx => ⟨?_, (hxx x hx).2⟩) hlen HA.out.2.2.2.1
     rw [hx]
     exact HH.out.at0 _ _ (hxx x hx).1)
end
end Go.Proofs.YtgllmhheahlpjaaGreatDoor
namespace Go.Proofs.YtgllmhheahlpjaaGreatDoor
open Go.RowKit Go.Shelf
attribute [local go_sem] Oper.semAt_some
theorem infoCp : (Tryz.prog.info? 27).map (fun i => (i.zero, i.size, i.bytes)) = some (some (.agg cZ), 10, 160) := by kernel_rfl
def crow (C : Nat → Cp) (l : List (Nat × Nat)) : List Value := l.flatMap fun x => (cH (C x.1)).toList
theorem crow_snoc (C : Nat → Cp) (l : List (Nat × Nat)) (x : Nat × Nat) : crow C (l ++ [x]) = crow C l ++ (cH (C x.1)).toList := by simp [crow]
theorem finds_c (p : Option Addr) (n cap : Nat) (t : ByteArray) (w : World) : Calls Tryz.prog 56 #[.slice p n cap, .string t] w fun e w' => e = .returned (.func (.func 84) #[] #[.pointer (some ⟨w.heap.size, 0, none⟩), .pointer (some ⟨w.heap.size + 1, 0, none⟩)]) ∧ w' = (w.alloc (.cells #[.slice p n cap] 22)).alloc (.cells #[.string t] 9) := by
 go_enter Tryz.func56, Tryz.ntmps56
 go_wp2
 go_ret
 exact ⟨by simp, rfl⟩
theorem heap_keptF {A B : World} {row : Option Nat} {b : Nat} {cs : Array Value} {T : TypeId} {f : Nat × Nat} (h : A.heap[b]? = some (.cells cs T f)) (hg : A.grownBy B row) (hr : ∀ r, row = some r → ∃ o, A.heap[r]? = some o ∧ o.isCells = false) : B.heap[b]? = some (.cells cs T f) := by
 refine (hg.block b (Array.getElem?_eq_some_iff.1 h).1 (fun e => ?_)).trans h
 obtain ⟨o, ho, hc⟩ := hr b e.symm
 rw [h] at ho; cases ho; cases hc
def AllI (w : World) (C : Nat → Cp) (β : Nat) (pre : List (Nat × Nat)) (X : World) : Prop :=
 w.heap.size + 3 ≤ β ∧ (∃ v, Boxed X w.heap.size 48 v ∧ X.ownsRow (β + 1) 27 10 v pre.length (crow C pre)) ∧ Below w.heap.size w X
theorem allI_stays (w : World) (C : Nat → Cp) (B β : Nat) (hB : w.heap.size < B) : StaysB B β (AllI w C β) := by
 rintro pre X Y r ⟨hle, ⟨v, hv, hrow⟩, hb⟩ hg hr
 refine ⟨hle, ⟨v, hv.kept hg (fun e => ?_), hrow.kept hg ?_⟩, hb.grown hg hb.size (fun k e => by have := (hr k e).1; omega)⟩
 ·have := (hr _ e.symm).1; omega
 ·rcases hrow.2 with ⟨rfl, _⟩ | ⟨g, cap, cur, rfl, hge, hgb, _⟩
  ·exact .inl rfl
  ·refine .inr fun e' => ?_
   obtain ⟨_, h2⟩ := hr g (by simpa [Value.ownBlock] using e'.symm)
   rcases h2 with h2 | ⟨o, ho, hc⟩
   ·omega
   ·rw [hgb] at ho; cases ho; cases hc
theorem kb_app {X w1 : World} {β B : Nat} {v v' : Value} {k : Nat} {xs : List Value} {e : TypeId} {sz : Nat} {tmp : Obj} (hrow : X.ownsRow (β + 1) e sz v k xs) (hg : (X.alloc tmp).grownBy w1 v.ownBlock) (j : Nat) (h1 : j < X.heap.size) (h2 : j ≤ β) (h3 : j ≠ B) : (w1.setCell ⟨B, 0, none⟩ v').heap[j]? = X.heap[j]? := by
 refine (Below.heap_setCell _ _ _ j h3).trans ((hg.block j (by rw [World.size_alloc]; omega) ?_).trans (Below.heap_alloc _ _ _ h1))
 rcases hrow.2 with ⟨rfl, _⟩ | ⟨g, cap, cur, rfl, hge, _⟩
 ·simp [Value.ownBlock]
 ·simp [Value.ownBlock]; omega
theorem news_cap (W : World) (f : Cp) : ∀ j u, (cH f).toList[j]? = some u → (W.alloc (.cells (cH f) 27)).cell? ((⟨W.heap.size, 0, none⟩ : Addr).add j) = some u := by
 intro j u hj
 rw [Addr.add_lit, Nat.zero_add, cell_of _ _ _ _ (heap_new W _)]
 simpa using hj
theorem cap_one (f : Cp) : ∀ u ∈ (cH f).toList, u.oneCell' = true := by
 intro u hu
 simp only [cH, List.mem_cons, List.not_mem_nil, or_false] at hu
 have hsp : ∀ o, (spV o).oneCell' = true := fun o => by cases o <;> rfl
 rcases hu with rfl | rfl | rfl | rfl | rfl | rfl | rfl | rfl | rfl | rfl <;> exact hsp _
section
variable {p : Option Addr} {n cap : Nat} {s : List UInt8} {w : World} {C : Nat → Cp} {F : Nat → Option Nat}
theorem all_in (h : FindF p n cap s w C F) (W : World) (hBW : Below w.heap.size w W) :
  CallsIn Fence.wide 5 Tryz.prog 32 #[.slice p n cap, .string ⟨s.toArray⟩] W fun e w' => ∃ v, e = .returned v ∧ w'.ownsRow W.heap.size 27 10 v (allP F s.length).length (crow C (allP F s.length)) ∧ Below W.heap.size W w' := by
 obtain ⟨i0, hi, hz0, hz1, hz2⟩ := info_parts infoCp
 obtain ⟨T0, hT0⟩ : ∃ t : ByteArray, t = ⟨s.toArray⟩ := ⟨_, rfl⟩
 rw [← hT0]
 have HT0 := Lib.hid hT0
 have HM := Lib.hid (fun w => finds_c p n cap T0 w)
 have HH := Lib.hid h
 have hlen := h.len
 clear hT0 h
 refine callsIn_of_wp_marks Tryz.func32 rfl trivial ?_ rfl
 simp only [Tryz.ntmps32, List.size_toArray, List.length_cons, List.length_nil, Nat.reduceAdd, Nat.reduceSub, Array.replicate_succ, Array.replicate_zero, List.push_toArray, List.append_toArray, List.nil_append, List.cons_append]
 gi_wp2_with ((try refine ⟨trivial, ?_⟩); gi_at_call 56; refine (callsIn_wide.2 (HM.out _)).mono ?_; rintro e w' ⟨rfl, rfl⟩)
 obtain ⟨W0, hW0⟩ : ∃ W0, W0 = (((W.alloc (.cells #[.slice none 0 0] 48)).alloc (.cells #[.slice p n cap] 22)).alloc (.cells #[.string T0] 9)) := ⟨_, rfl⟩
 rw [← hW0]
 have hsz : W0.heap.size = W.heap.size + 3 := by rw [hW0]; simp
 have hBW0 : Below W.heap.size W W0 := by rw [hW0]; exact (((Below.refl _ W).alloc (Nat.le_refl _) _).alloc (by simp) _).alloc (by simp; omega) _
 have bO : Boxed W0 W.heap.size 48 (.slice none 0 0) := by rw [hW0]; exact ((Boxed.new W _ _).alloc _).alloc _
 have hcl : W0.cell? ⟨W.heap.size + 1, 0, none⟩ = some (.slice p n cap) := by
  rw [hW0]
  have := heap_new (W.alloc (.cells #[.slice none 0 0] 48)) (.cells #[.slice p n cap] 22)
  rw [World.size_alloc] at this
  exact (cell_of _ _ _ _ ((Below.heap_alloc _ _ _ (by simp)).trans this) 0).trans rfl
 have hct : W0.cell? ⟨W.heap.size + 1 + 1, 0, none⟩ = some (.string ⟨s.toArray⟩) := by
  rw [hW0, ← HT0.out]
  have := heap_new ((W.alloc (.cells #[.slice none 0 0] 48)).alloc (.cells #[.slice p n cap] 22)) (.cells #[.string T0] 9)
  simp only [World.size_alloc] at this
  exact (cell_of _ _ _ _ this 0).trans rfl
 have hBw : Below w.heap.size w W0 := hBW.trans (hBW0.mono hBW.size)
 clear hW0
 refine wpIn_rangeB rfl (by omega) (gf := 84) (lb := #[.pointer (some ⟨W.heap.size + 1, 0, none⟩), .pointer (some ⟨W.heap.size + 1 + 1, 0, none⟩)]) rfl trivial (enters_of Tryz.func84 (by kernel_rfl) rfl)
  (encs := fun x : Nat × Nat => #[capV (C x.1)]) (K := KB w.heap.size (W.heap.size + 1) (W.heap.size + 1 + 1)) (S := fun ys => ys = allP F s.length) (N := s.length + 2)
  (fun l J X hX hst hY h0 => finds1_in HH.out (5 - 1) (by omega) l (W.heap.size + 1) (W.heap.size + 1 + 1) J X (hBw.trans (hX.mono hBw.size)) (by have := hX.size; omega) (by have := hX.size; omega) ((hX.cell (p := ⟨W.heap.size + 1, 0, none⟩) (by show W.heap.size + 1 < _; omega)).trans hcl) ((hX.cell (p := ⟨W.heap.size + 1 + 1, 0, none⟩) (by show W.heap.size + 1 + 1 < _; omega)).trans hct) hst hY h0)
  (fun h k => h.trans k) (fun β X l o' hl hlt hne => ⟨(Below.refl _ X).grown (grownBy_putObj' X l o') (by have := hBw.size; omega) (fun k e => by cases e; have := hBw.size; omega), World.putObj_heap_other (by omega), World.putObj_heap_other (by omega), World.putObj_heap_other (Ne.symm hne)⟩)
  (fun _ => rfl) (AllI W C) (fun β => allI_stays W C _ β (by omega)) (fun β hβ => ⟨by omega, ⟨_, bO, World.ownsRow_nil _ _ _ _⟩, hBW0⟩)
  (fun x a' X => ∃ Bx, W.heap.size < Bx ∧ X.heap[Bx]? = some (.cells (cH (C x.1)) 27 (0, 0)) ∧ a' = { tmps := #[.slice p n cap, .string T0, undef, undef, .slice none 0 0, .pointer (some ⟨W.heap.size, 0, none⟩), .pointer (some ⟨Bx, 0, none⟩), .slice p n cap, .string T0, .func (.func 84) #[] #[.pointer (some ⟨W.heap.size + 1, 0, none⟩), .pointer (some ⟨W.heap.size + 1 + 1, 0, none⟩)], (.agg (cH (C x.1))), undef, undef, undef, undef, undef], defers := [] })
  (fun x a' => Own.from (fun _ A B row ⟨Bx, h1, h2, h3⟩ hg hr => ⟨Bx, h1, heap_keptF h2 hg hr, h3⟩) _) ?assign ?body ?done
 case assign =>
  rintro l β pre x X Z hlt hI hZ
  have hlX : W.heap.size + 1 ≤ X.heap.size := by obtain ⟨v, hv, _⟩ := hI.2.1; exact hv.lt
  have hI' : AllI W C β pre (X.alloc (.cells (cH (C x.1)) 27)) := allI_stays W C _ β (Nat.lt_succ_self _) pre _ _ none hI (World.grownBy_alloc X _ none) (fun k e => by cases e)
  have hK' : W0.heap.size ≤ X.heap.size → KB w.heap.size (W.heap.size + 1) (W.heap.size + 1 + 1) β X (X.alloc (.cells (cH (C x.1)) 27)) := fun hs => ⟨(Below.refl _ X).alloc (by have := hBw.size; omega) _, Below.heap_alloc _ _ _ (by omega), Below.heap_alloc _ _ _ (by omega), Below.heap_alloc _ _ _ hlt⟩
  have H := Lib.hid (And.intro hI' (And.intro hK' hlX))
  have HI := Lib.hid hI
  clear hI' hK' hlX hI
  unfold capV
  gi_wp2
  exact hZ _ _ ((KeepsOthers.alloc _ _).from _) (H.out.2.1 (by have := HI.out.1; omega)) H.out.1 ⟨X.heap.size, H.out.2.2, heap_new X _, rfl⟩
 case body =>
  rintro l β pre x a' X hlt ⟨hle, ⟨v, hv, hrow⟩, hB⟩ ⟨Bx, hBx, bX, rfl⟩ hlen
  have hc := hv.cell
  have hbx : Blk X Bx (cH (C x.1)) 27 := ⟨bX⟩
  obtain ⟨k0, k1, k2, k3, k4, k5, k6, k7, k8, k9⟩ := capBlk.ten hbx
  clear bX hbx
  gi_wp2_with (gi_at_builtin; refine wpListIn_append_own _ rfl _ _ 48 rfl (β + 1) 27 i0 (.agg cZ) 10 160 Tryz.underlying48 hi hz0 hz1 hz2 rfl (by decide) _ _ _ rfl (hrow.alloc _) ⟨X.heap.size, 0, none⟩ 1 1 (cH (C x.1)).toList rfl rfl (news_cap X _) (cap_one _) (by unfold maxLen; omega) (by omega) (by rw [World.size_alloc]; omega) ?_; intro v' w1' hown' hgrow' _; obtain ⟨g', cap', rfl⟩ := ownsRow_succ hown'; obtain ⟨hv1, hv2, hr2, hk2, hb2⟩ := hv.appended (n₀ := W.heap.size) (by decide) (owns_base hrow (by omega)) hB.size (Nat.le_refl _) (owns_base hown' (by omega)) hgrow'; have hc1 := hv1.cell; have hf1 := hv1.frozen; have hkb := fun j h1 h2 h3 => kb_app (B := W.heap.size) (v' := .slice (some ⟨g', 0, none⟩) (pre.length + 1) cap') hrow hgrow' j h1 h2 h3; have hr3 := hown'.kept (grownBy_setCell' w1' W.heap.size (.slice (some ⟨g', 0, none⟩) (pre.length + 1) cap')) (.inr (hv1.not_row (by decide) hown').symm))
  exact ⟨hk2.from _, ⟨hb2.mono hBW.size, hkb _ (by omega) (by omega) (by omega), hkb _ (by omega) (by omega) (by omega), hkb _ hlt (Nat.le_refl _) (by omega)⟩, hle, ⟨_, hv2, by rw [crow_snoc, List.length_append]; exact hr3⟩, hB.trans hb2⟩
 case done =>
  rintro D β ys X hD rfl ⟨hle, ⟨v, hv, hrow⟩, hB⟩ hK
  have hc := hv.cell
  gi_wp2
  refine ⟨by simp, .inl ⟨_, _, rfl, run_takeDeferred hK, ?_⟩⟩
  exact ⟨_, results_tmp rfl _ _ _, _, rfl, owns_base (ownsRow_putObj hrow (.deferred none) hK rfl) (by omega), hB.trans (belowK_b (w := W) (Nat.le_refl _) X D _ _ (by omega) hK rfl rfl)⟩
def CL (X : World) (P : Option Addr) (C : Nat → Cp) (L : List (Nat × Nat)) : Prop := ∀ (k : Nat) (x : Nat × Nat), L[k]? = some x → ∃ g, P = some ⟨g, 0, none⟩ ∧ ∀ j, j < 10 → X.cell? ⟨g, k * 10 + j, none⟩ = some (spV (C x.1 j))
theorem CL.below {X Y : World} {P : Option Addr} {C : Nat → Cp} {L : List (Nat × Nat)} (h : CL X P C L) (hB : Below X.heap.size X Y) : CL Y P C L := fun k x hx => by
 obtain ⟨g, e, hc⟩ := h k x hx
 exact ⟨g, e, fun j hj => by rw [hB.cell (p := ⟨g, k * 10 + j, none⟩) (cell_lt (hc j hj))]; exact hc j hj⟩
theorem crow_get (C : Nat → Cp) : ∀ (l : List (Nat × Nat)) (k : Nat) (x : Nat × Nat) (j : Nat), l[k]? = some x → j < 10 → (crow C l)[k * 10 + j]? = some (spV (C x.1 j))
 | [], k, x, j, h, hj => by simp at h
 | y :: l, 0, x, j, h, hj => by
  simp only [List.getElem?_cons_zero, Option.some.injEq] at h
  subst h
  show ((cH (C y.1)).toList ++ crow C l)[0 * 10 + j]? = _
  rw [List.getElem?_append_left (by simp; omega)]
  rcases (by omega : j = 0 ∨ j = 1 ∨ j = 2 ∨ j = 3 ∨ j = 4 ∨ j = 5 ∨ j = 6 ∨ j = 7 ∨ j = 8 ∨ j = 9) with rfl | rfl | rfl | rfl | rfl | rfl | rfl | rfl | rfl | rfl <;> rfl
 | y :: l, k + 1, x, j, h, hj => by
  simp only [List.getElem?_cons_succ] at h
  show ((cH (C y.1)).toList ++ crow C l)[(k + 1) * 10 + j]? = _
  rw [List.getElem?_append_right (by simp; omega)]
  have : (k + 1) * 10 + j - (cH (C y.1)).toList.length = k * 10 + j := by simp; omega
  rw [this]
  exact crow_get C l k x j h hj
theorem cl_of {X : World} {B : Nat} {v : Value} {C : Nat → Cp} {L : List (Nat × Nat)} (ho : X.ownsRow B 27 10 v L.length (crow C L)) : ∃ P cap, v = .slice P L.length cap ∧ CL X P C L := by
 rcases ho.2 with ⟨e, h0⟩ | ⟨g, cap, cur, e, _, hg, h1, h2, _, ht⟩
 ·refine ⟨none, 0, by rw [e, h0], fun k x hx => ?_⟩
  have := (List.getElem?_eq_some_iff.1 hx).1
  omega
 ·refine ⟨some ⟨g, 0, none⟩, cap, e, fun k x hx => ⟨g, rfl, fun j hj => ?_⟩⟩
  have hk := (List.getElem?_eq_some_iff.1 hx).1
  have h3 : (cur.toList.take (L.length * 10))[k * 10 + j]? = (crow C L)[k * 10 + j]? := by rw [ht]
  rw [List.getElem?_take_of_lt (by omega), crow_get C L k x j hx hj, Array.getElem?_toList] at h3
  simp [World.cell?, hg, h3]
theorem fall_c (h : FindF p n cap s w C F) (W : World) (hBW : Below w.heap.size w W) :
  Calls Tryz.prog 32 #[.slice p n cap, .string ⟨s.toArray⟩] W fun e w' => (∃ P c, e = .returned (.slice P (allP F s.length).length c) ∧ CL w' P C (allP F s.length)) ∧ Below W.heap.size W w' :=
 ((callsIn_wide (n := 5)).1 (all_in h W hBW)).mono fun e w' ⟨v, he, ho, hB⟩ => by
  obtain ⟨P, c, rfl, hC⟩ := cl_of ho
  exact ⟨⟨P, c, he, hC⟩, hB⟩
theorem fhas_c (h : FindF p n cap s w C F) (W : World) (hBW : Below w.heap.size w W) :
  Calls Tryz.prog 30 #[.slice p n cap, .string ⟨s.toArray⟩] W fun e w' => e = .returned (.bool (fstP F s.length 0).isSome) ∧ Below W.heap.size W w' := by
 have HF0 := Lib.hid (ffirst_c h 0 0 (by omega) (by omega) W hBW)
 clear h
 go_enter Tryz.func30, Tryz.ntmps30
 go_wp2_with fail
 refine HF0.out.mono ?_
 rintro e w2 ⟨rfl, hB2⟩
 have HB := Lib.hid (hB2.alloc hB2.size (.cells (cH (capP C (fstP F s.length 0))) 27))
 clear hB2 HF0
 unfold capV
 go_wp2
 go_ret
 exact ⟨rfl, HB.out⟩
end
end Go.Proofs.YtgllmhheahlpjaaGreatDoor
namespace Go.Proofs.YtgllmhheahlpjaaGreatDoor
open Go.RowKit Go.Lib Go.Maps Go.WideMaps
def bd7 (xs : List Nd) (s : List UInt8) : Bool := decide (xs.length ≤ 16) && decide (s.length ≤ 8) && (decide (kcnt xs 8 xs.length = 0) || (decide (kcnt xs 6 xs.length ≤ 2) && decide (s.length ≤ 5)))
theorem bd7_bd {xs : List Nd} {s : List UInt8} (h : bd7 xs s = true) : bdR xs s = true ∧ s.length ≤ 8 := by
 unfold bd7 at h
 unfold bdR
 simp only [Bool.and_eq_true, Bool.or_eq_true, decide_eq_true_iff] at h ⊢
 exact ⟨⟨⟨by omega, by omega⟩, h.2.imp id (fun q => ⟨q.1, by omega⟩)⟩, h.1.2⟩
theorem bounded7_c (p : Option Addr) (n cap : Nat) (xs : List Nd) (s : List UInt8) (w : World) (h : Nodes w p n xs) :
  Calls Tryz.prog 25 #[.slice p n cap, .string ⟨s.toArray⟩] w fun e w' => e = .returned (.bool (bd7 xs s)) ∧ w' = w := by
 have hlen := h.len
 have hsm := h.small
 have hsz : (⟨s.toArray⟩ : ByteArray).size = s.length := by simp [ByteArray.size]
 obtain ⟨R, hR⟩ : ∃ R, R = bd7 xs s := ⟨_, rfl⟩
 rw [← hR]
 unfold bd7 at hR
 rw [hlen] at hR
 have HR := Lib.hid hR
 have HN := Lib.hid h
 have HLN := Lib.hid hlen
 clear hR h hlen
 go_enter Tryz.func25, Tryz.ntmps25
 go_wp2
 go_loopw [5, 6, 7] (fun tv fv iv wr => ∃ k : Nat, k ≤ n ∧ iv = .int .i64 k ∧ tv = .int .i64 (kcnt xs 6 k : Nat) ∧ fv = .int .i64 (kcnt xs 8 k : Nat) ∧ wr = w) (fun _ _ iv _ => n - (RowKit.intOf iv).toNat)
 case atStart => exact ⟨0, Nat.zero_le _, rfl, rfl, rfl, rfl⟩
 case round =>
  obtain ⟨k, hk, rfl, rfl, rfl, rfl⟩ := hrel
  have l6 := kcnt_le xs 6 k
  have l8 := kcnt_le xs 8 k
  by_cases hlt : k < n
  ·obtain ⟨b, o, rfl⟩ := HN.out.ptr (by omega)
   obtain ⟨x, hx⟩ : ∃ x, xs[k]? = some x := ⟨xs[k]'(by rw [HLN.out]; exact hlt), List.getElem?_eq_getElem _⟩
   have c0 : wr.cell? ⟨b, o + k * 10, none⟩ = some (.int .i64 x.kind) := (HN.out.at' (by omega) b o rfl).cell k x hx 0 _ rfl
   have HXX := Lib.hid hx
   clear hx
   by_cases h6 : x.kind = 6
   ·have b6 : (x.kind == 6) = true := by simpa using h6
    have b8 : (x.kind == 8) = false := by rw [h6]; rfl
    have n8 : ¬ x.kind = 8 := by omega
    have e6 := Lib.hid (kcnt_yes HXX.out h6)
    have e8 := Lib.hid (kcnt_no HXX.out n8)
    go_wp2
    go_roundw
    case rel => exact ⟨k + 1, by omega, by simp, by rw [e6.out]; simp, by rw [e8.out], by first | rfl | trivial⟩
    case measure => (simp [RowKit.intOf]) <;> omega
   ·have b6 : (x.kind == 6) = false := by rw [beq_eq_false_iff_ne]; exact h6
    have e6 := Lib.hid (kcnt_no HXX.out h6)
    by_cases h8 : x.kind = 8
    ·have b8 : (x.kind == 8) = true := by simpa using h8
     have e8 := Lib.hid (kcnt_yes HXX.out h8)
     go_wp2
     go_roundw
     case rel => exact ⟨k + 1, by omega, by simp, by rw [e6.out], by rw [e8.out]; simp, by first | rfl | trivial⟩
     case measure => (simp [RowKit.intOf]) <;> omega
    ·have b8 : (x.kind == 8) = false := by rw [beq_eq_false_iff_ne]; exact h8
     have e8 := Lib.hid (kcnt_no HXX.out h8)
     go_wp2
     go_roundw
     case rel => exact ⟨k + 1, by omega, by simp, by rw [e6.out], by rw [e8.out], by first | rfl | trivial⟩
     case measure => (simp [RowKit.intOf]) <;> omega
  ·obtain rfl : k = n := by omega
   have HL6 := Lib.hid l6
   clear l6 l8 hlt
   by_cases q1 : k ≤ 16
   ·by_cases q2 : s.length ≤ 8
    ·by_cases q3 : kcnt xs 8 k = 0
     ·have i1 : (k : Int) ≤ 16 := by omega
      have i2 : (s.length : Int) ≤ 8 := by omega
      have i3 : ((kcnt xs 8 k : Nat) : Int) = 0 := by omega
      go_wp2
      go_ret
      exact ⟨by rw [HR.out]; simp [q1, q2, q3], rfl⟩
     ·have i1 : (k : Int) ≤ 16 := by omega
      have i2 : (s.length : Int) ≤ 8 := by omega
      have i3 : ((((kcnt xs 8 k : Nat) : Int)) == 0) = false := by rw [beq_eq_false_iff_ne]; omega
      by_cases q4 : kcnt xs 6 k ≤ 2
      ·have i4 : ((kcnt xs 6 k : Nat) : Int) ≤ 2 := by omega
       by_cases q5 : s.length ≤ 5
       ·have i5 : (s.length : Int) ≤ 5 := by omega
        go_wp2
        go_ret
        exact ⟨by rw [HR.out]; simp [q1, q2, q3, q4, q5], rfl⟩
       ·have i5 : ¬ (s.length : Int) ≤ 5 := by omega
        go_wp2
        go_ret
        exact ⟨by rw [HR.out]; simp [q1, q2, q3, q4, q5], rfl⟩
      ·have i4 : ¬ ((kcnt xs 6 k : Nat) : Int) ≤ 2 := by omega
       go_wp2
       go_ret
       exact ⟨by rw [HR.out]; simp [q1, q2, q3, q4], rfl⟩
    ·have i1 : (k : Int) ≤ 16 := by omega
     have i2 : ¬ (s.length : Int) ≤ 8 := by omega
     go_wp2
     go_ret
     exact ⟨by rw [HR.out]; simp [q1, q2], rfl⟩
   ·have i1 : ¬ (k : Int) ≤ 16 := by omega
    go_wp2
    go_ret
    exact ⟨by rw [HR.out]; simp [q1], rfl⟩
theorem lg_cap {xs : List Nd} {s : List UInt8} {t : T} (hp : IsPat xs t) (k : Nat) : CapOk s.length (lgC s t k) := by
 unfold lgC
 cases h : lgR s t k with
 | none => exact fun g a b e => by cases e
 | some m =>
  have hg := greatest_some h
  exact whole_cap (sem_ok s t (lok_mok t (ok_lok t hp.1)).1) hg.1 hg.2.1
theorem find_calls {p : Option Addr} {n cap : Nat} {xs : List Nd} {s : List UInt8} {w : World} (hN : Nodes w p n xs) (hb : bd7 xs s = true) (hT : TabAt 0 Lib.deBruijn64tab w) (h0 : 0 < w.heap.size) :
  ∃ C F, FindF p n cap s w C F := by
 obtain ⟨hb, h8⟩ := bd7_bd hb
 by_cases hp : ∃ t, IsPat xs t
 ·obtain ⟨t, hp⟩ := hp
  have hn : 1 ≤ n := by
   have h3 := hp.2.2.1
   have := t.size_pos
   have := hN.len
   omega
  obtain ⟨b, o, rfl⟩ := hN.ptr hn
  have hx := hN.at' hn b o rfl
  obtain rfl := hN.len
  refine ⟨lgC s t, lgR s t, ⟨fun k m h => ?_, fun k m h => ?_, by omega, lg_cap hp, fun k hk W hB => ?_⟩⟩
  ·have := greatest_some h; exact ⟨this.1, this.2.1⟩
  ·unfold lgC wholeC; rw [h]; rfl
  ·exact Longest_c b o cap s xs t hp hN.fits (by omega) (bd_ref hb hp) k hk W (hx.below hB hx.lt) (tab_below hT hB h0) (Nat.lt_of_lt_of_le h0 hB.size)
 ·have hM : ∀ W, Below w.heap.size w W → Calls Tryz.prog 40 #[.slice p n cap] W fun e w' => e = .returned (.bool false) ∧ Below W.heap.size W w' := fun W hB => may_n p n cap xs false ⟨fun h => (by cases h), fun h => absurd h hp⟩ W (hN.below hB)
  refine ⟨fun _ => noC, fun _ => none, ⟨fun k m h => (by cases h), fun k m h => (by cases h), by omega, fun k g a b h => (by cases h), fun k hk W hB => ?_⟩⟩
  exact Longest_bad (.slice p n cap) false s k (fun h => (by cases h)) W (fun W' hB' => hM W' (hB.trans (hB'.mono hB.size)))
def t7 : T := .times 0 (-1) (.leaf ndA)
def s7 : List UInt8 := [98, 97, 97, 97, 99]
def x7 : List Nd := [ndA, ⟨6, 0, 0, 0, 0, 0, 0, 0, -1, 0⟩]
theorem shown7_all : allP (lgR s7 t7) 5 = [(0, 0), (1, 4), (5, 5)] := by decide +kernel
theorem shown7_has : (fstP (lgR [] t7) 0 0).isSome = true := by decide +kernel
theorem fits7 : ∀ (i : Nat) (x : Nd), x7[i]? = some x → x.Fits := fun i x h => by
 have : x ∈ x7 := List.mem_of_getElem? h
 simp only [x7, List.mem_cons, List.not_mem_nil, or_false] at this
 rcases this with rfl | rfl <;> exact ⟨by decide, by decide, by decide, by decide, by decide, by decide, by decide, by decide, by decide, by decide⟩
theorem pat7 : IsPat x7 t7 := by
 refine ⟨?_, ?_, rfl, by decide, ?_, ?_, by decide +kernel⟩
 ·exact ⟨by decide +kernel, by decide +kernel, .inr (.inl rfl)⟩
 ·exact ⟨rfl, rfl⟩
 ·intro i x h
  have : x ∈ x7 := List.mem_of_getElem? h
  simp only [x7, List.mem_cons, List.not_mem_nil, or_false] at this
  rcases this with rfl | rfl <;> decide +kernel
 ·intro i x h
  have : x ∈ x7 := List.mem_of_getElem? h
  simp only [x7, List.mem_cons, List.not_mem_nil, or_false] at this
  rcases this with rfl | rfl
  ·exact trivial
  ·exact .inl (by decide +kernel)
def p7 : List UInt8 := [42, 48, 44, 45, 49, 59, 91, 54, 49, 93]
theorem text7 : text t7 = p7 := by
 have ka : leafText ndA = [91, 54, 49, 93] := by
  unfold leafText
  rw [if_neg (by decide), if_pos (by rfl), bytes_sa, hex_sa]; rfl
 simp only [t7, text, ka, itoa_s0, itoa_sm]
 rfl
theorem rdx7 : rdx p7 = x7 := by rw [← text7]; exact rdx_text pat7 fits7
theorem parse7 (w : World) (hw : Fit4 w) :
  Calls Tryz.prog 41 #[.string ⟨#[42, 48, 44, 45, 49, 59, 91, 54, 49, 93]⟩] w fun e w' => (∃ g cap, e = .returned (.tuple #[.slice (some ⟨g, 0, none⟩) 2 cap, .int .i64 0]) ∧ w.heap.size ≤ g ∧ NodesAt w' g 0 x7) ∧ Below w.heap.size w w' := by
 have := parse_yes p7 (by decide) t7 (by rw [rdx7]; exact pat7) text7 w hw
 rw [rdx7] at this
 exact this
theorem find7 (g cap : Nat) (s : List UInt8) (hs : s.length ≤ 9) (w : World) (hx : NodesAt w g 0 x7) (hT : TabAt 0 Lib.deBruijn64tab w) (h0 : 0 < w.heap.size) : FindF (some ⟨g, 0, none⟩) 2 cap s w (lgC s t7) (lgR s t7) := by
 refine ⟨fun k m h => ?_, fun k m h => ?_, by omega, lg_cap pat7, fun k hk W hB => ?_⟩
 ·have := greatest_some h; exact ⟨this.1, this.2.1⟩
 ·unfold lgC wholeC; rw [h]; rfl
 ·exact Longest_c g 0 cap s x7 t7 pat7 fits7 (by omega) (fun h => absurd h (by decide)) k hk W (hx.below hB hx.lt) (tab_below hT hB h0) (Nat.lt_of_lt_of_le h0 hB.size)
theorem shown7_c (w : World) (hw : Fit4 w) (hT : TabAt 0 Lib.deBruijn64tab w) (h0 : 0 < w.heap.size) :
  Calls Tryz.prog 26 #[] w fun e w' => e = .returned (.bool true) ∧ Below w.heap.size w w' := by
 have HP := Lib.hid (parse7 w hw)
 have HT := Lib.hid hT
 have HA := Lib.hid (fun (g cap : Nat) (W : World) (hx : NodesAt W g 0 x7) (hT : TabAt 0 Lib.deBruijn64tab W) (h0 : 0 < W.heap.size) => fall_c (find7 g cap s7 (by decide) W hx hT h0) W (Below.refl _ W))
 have HH := Lib.hid (fun (g cap : Nat) (W : World) (hx : NodesAt W g 0 x7) (hT : TabAt 0 Lib.deBruijn64tab W) (h0 : 0 < W.heap.size) => fhas_c (find7 g cap [] (by decide) W hx hT h0) W (Below.refl _ W))
 have hg : ∀ k m, lgR s7 t7 k = some m → lgC s7 t7 k 0 = some (k, m) := fun k m h => by unfold lgC wholeC; rw [h]; rfl
 have z1 : spV (lgC s7 t7 1 0) = spV (some (1, 4)) := by rw [hg 1 4 (by decide +kernel)]
 have z2 : spV (lgC s7 t7 5 0) = spV (some (5, 5)) := by rw [hg 5 5 (by decide +kernel)]
 have HZ := Lib.hid (And.intro z1 z2)
 clear hT z1 z2 hg
 go_enter Tryz.func26, Tryz.ntmps26
 go_wp2_with fail
 refine HP.out.mono ?_
 rintro e w1 ⟨⟨g, cap, rfl, hg, hx⟩, hB1⟩
 have lw1 := hB1.size
 have hT1 := tab_below HT.out hB1 h0
 have HCALL := Lib.hid (HA.out g cap w1 hx hT1 (by omega))
 have H1 := Lib.hid (And.intro hx (And.intro hT1 hB1))
 have lg := hx.lt
 clear hx hT1 hB1
 go_wp2_with fail
 refine HCALL.out.mono ?_
 rintro e w2 ⟨⟨P, c2, rfl, hC⟩, hB2⟩
 rw [show allP (lgR s7 t7) s7.length = [(0, 0), (1, 4), (5, 5)] from shown7_all] at hC ⊢
 obtain ⟨g2, rfl, hc1⟩ := hC 1 (1, 4) rfl
 obtain ⟨g3, e3, hc2⟩ := hC 2 (5, 5) rfl
 obtain rfl : g2 = g3 := by simpa using e3
 have c1 : w2.cell? ⟨g2, 10, none⟩ = some (spV (some (1, 4))) := by rw [← HZ.out.1]; exact hc1 0 (by omega)
 have c2' : w2.cell? ⟨g2, 20, none⟩ = some (spV (some (5, 5))) := by rw [← HZ.out.2]; exact hc2 0 (by omega)
 have lw2 := hB2.size
 have HC := Lib.hid (HH.out g cap w2 (H1.out.1.below hB2 lg) (tab_below H1.out.2.1 hB2 (by omega)) (by omega))
 have H2 := Lib.hid (H1.out.2.2.trans (hB2.mono lw1))
 rw [show (fstP (lgR [] t7) ([] : List UInt8).length 0).isSome = true from shown7_has] at HC
 rw [show ([(0, 0), (1, 4), (5, 5)] : List (Nat × Nat)).length = 3 from rfl]
 have HCU : Hid (∀ w, Calls Tryz.prog 47 #[.string ⟨#[98, 97, 97, 97, 99]⟩, spV (some (1, 4))] w fun e w' => e = .returned (.string ⟨#[97, 97, 97]⟩) ∧ w' = w) := Lib.hid (fun w => cut_sp s7 (by decide) (some (1, 4)) (fun a b e => by cases e; decide) w)
 have HFR : Hid (∀ w, Calls Tryz.prog 36 #[spV (some (5, 5))] w fun e w' => e = .returned (.int .i64 5) ∧ w' = w) := Lib.hid (fun w => from_sp (some (5, 5)) (fun a b e => by cases e; decide) w)
 clear hC hc1 hc2 e3 HCALL
 go_wp2_with fail
 refine (HCU.out _).mono ?_
 rintro e w3 ⟨rfl, rfl⟩
 go_wp2_with fail
 refine (HFR.out _).mono ?_
 rintro e w4 ⟨rfl, rfl⟩
 go_wp2_with fail
 refine HC.out.mono ?_
 rintro e w5 ⟨rfl, hB5⟩
 have H5 := Lib.hid (H2.out.trans (hB5.mono (by have := H2.out.size; omega)))
 clear hB5
 go_wp2
 go_ret
 exact ⟨rfl, H5.out⟩
end Go.Proofs.YtgllmhheahlpjaaGreatDoor
