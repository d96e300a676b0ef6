/- The reference's leaf: a node more (P4.3). -/
import Derived.Test.YtkcbknfhckomcaaGreatDoorYBvA
import Derived.OrdersHeld
import Derived.Deep.AppendLies
import Derived.Deep.Upon
import Derived.Deep.DeepCutAuto
set_option linter.unusedVariables false
set_option linter.unusedSimpArgs false
set_option maxRecDepth 100000
set_option maxHeartbeats 40000000
namespace Go.Proofs.YtkcbknfhckomcaaGreatDoor
open Go.RowKit Go.Lib
theorem nd_one (x : Nd) : ∀ u ∈ x.cells.toList, u.oneCell' = true := by
 intro u hu
 simp [Nd.cells] at hu
 rcases hu with rfl | rfl | rfl | rfl | rfl | rfl | rfl | rfl | rfl | rfl <;> rfl
theorem flat_one (xs : List Nd) : ∀ u ∈ flat xs, u.oneCell' = true := fun u hu => by
 simp only [flat, List.mem_flatMap] at hu
 obtain ⟨x, _, hx⟩ := hu
 exact nd_one x u hx
theorem flat_end (xs : List Nd) (x : Nd) : flat (xs ++ [x]) = flat xs ++ x.cells.toList := by simp [flat]
structure NB3 (W : World) (b : Nat) (x : Nd) : Prop where
 heap : W.heap[b]? = some (.cells x.cells 47 (0, 0))
section
variable {W W' : World} {b : Nat} {x : Nd}
theorem NB3.lt (h : NB3 W b x) : b < W.heap.size := (Array.getElem?_eq_some_iff.1 h.heap).1
theorem NB3.c (h : NB3 W b x) (j : Nat) : W.cell? ⟨b, j, none⟩ = x.cells[j]? := by rw [cell_of _ _ _ _ h.heap]
theorem NB3.below {B : Nat} (h : NB3 W b x) (hB : Below B W W') (hb : b < B) : NB3 W' b x := ⟨(hB.block b hb).trans h.heap⟩
theorem NB3.alloc (h : NB3 W b x) (o : Obj) : NB3 (W.alloc o) b x := h.below (B := W.heap.size) ((Below.refl _ W).alloc (Nat.le_refl _) o) h.lt
theorem NB3.new (W : World) (x : Nd) : NB3 (W.alloc (.cells x.cells 47)) W.heap.size x := ⟨heap_new W _⟩
theorem NB3.grown {r : Nat} (h : NB3 W b x) (hg : W.grownBy W' (some r)) (hr : b ≠ r) : NB3 W' b x := ⟨(hg.block b h.lt (fun e => hr (Option.some.inj e))).trans h.heap⟩
end
structure NE3 (W : World) (b : Nat) : Prop where
 heap : W.heap[b]? = some (.cells #[] 47 (0, 0))
theorem NE3.lt {W : World} {b : Nat} (h : NE3 W b) : b < W.heap.size := (Array.getElem?_eq_some_iff.1 h.heap).1
theorem NE3.alloc {W : World} {b : Nat} (h : NE3 W b) (o : Obj) : NE3 (W.alloc o) b := ⟨(((Below.refl W.heap.size W).alloc (Nat.le_refl _) o).block b h.lt).trans h.heap⟩
theorem NE3.new (W : World) : NE3 (W.alloc (.cells #[] 47)) W.heap.size := ⟨heap_new W _⟩
theorem row_shape {W : World} {B n : Nat} {v : Value} {xs : List Nd} (h : RRow W B v n xs) : ∃ p c, v = .slice p n c := by
 rcases h.2 with ⟨h1, h2⟩ | ⟨g, cap, cur, h1, _⟩
 ·exact ⟨none, 0, by rw [h1, h2]⟩
 ·exact ⟨_, _, h1⟩
theorem row_weak {W : World} {B B' n : Nat} {v : Value} {xs : List Nd} (h : RRow W B v n xs) (hB : B' ≤ B) : RRow W B' v n xs := by
 refine ⟨h.1, ?_⟩
 rcases h.2 with h1 | ⟨g, cap, cur, h1, h2, h3⟩
 ·exact .inl h1
 ·exact .inr ⟨g, cap, cur, h1, Nat.le_trans hB h2, h3⟩
theorem row_below {W W' : World} {B n : Nat} {v : Value} {xs : List Nd} (h : RRow W B v n xs) (hB : Below W.heap.size W W') : RRow W' B v n xs := by
 refine ⟨h.1, ?_⟩
 rcases h.2 with h1 | ⟨g, cap, cur, h1, h2, h3, h4⟩
 ·exact .inl h1
 ·exact .inr ⟨g, cap, cur, h1, h2, (hB.block g (Array.getElem?_eq_some_iff.1 h3).1).trans h3, h4⟩
theorem row_alloc {W : World} {B n : Nat} {v : Value} {xs : List Nd} (h : RRow W B v n xs) (o : Obj) : RRow (W.alloc o) B v n xs := row_below h ((Below.refl _ W).alloc (Nat.le_refl _) o)
theorem wp_copy {W : World} {o : Oper} {a : Act} {K : Act → World → Prop} {Q : Exit → Act → World → Prop} {s x : Operand}
  (ho : o.op = .call { callee := .builtin .append, args := #[s, x], argTypes := #[28, 28] }) {k : Nat} (hk : NE3 W k)
  (hs : a.eval s = .slice (some ⟨k, 0, none⟩) 0 0) {v : Value} {n : Nat} {xs : List Nd} (hx : a.eval x = v) (hrow : RRow W 0 v n xs) (hn : n ≤ 1000000) {B : Nat} (hB : B ≤ k)
  (h : ∀ v' W', RRow W' B v' n xs → W.grownBy W' (some k) → K (a.put o.dst v') W') : o.wp Tryz.prog a W K Q := by
 obtain ⟨i0, hi, hz0, hz1, hz2⟩ := info_parts infoRn
 have hown : W.ownsRow B 47 10 (.slice (some ⟨k, 0, none⟩) 0 0) 0 [] := ⟨rfl, .inr ⟨k, 0, #[], rfl, hB, hk.heap, Nat.le_refl _, Nat.zero_le _, rfl, rfl⟩⟩
 have hlt := hk.lt
 rcases hrow.2 with ⟨rfl, h0⟩ | ⟨g, cap, cur, rfl, _, hg, _⟩
 ·subst h0
  have hxs : flat xs = [] := List.eq_nil_of_length_eq_zero (by simpa using hrow.1)
  have hr := run_append_nothing (P := Tryz.prog) W 28 28 o.type 47 i0 Tryz.underlying28 hi (some ⟨k, 0, none⟩) 0 0 (Nat.le_refl _) (.slice none 0 0)
   ⟨.inl ⟨_, Tryz.underlying28⟩, fun w' => by simp [Builtin.lenOf], by simp [Builtin.firstCells, loadCells, loadCellsFrom], by simp [Builtin.firstCells, loadCells, loadCellsFrom], by simp, fun u hu => by cases hu⟩
  unfold Oper.wp execOp
  simp only [ho, resolve, invoke, builtin, Sem.run_bind, Sem.run_pure, Result.andThen_ok, List.map_toArray, List.map_cons, List.map_nil, hs, hx, hr]
  refine h _ W ?_ ⟨rfl, rfl, rfl, Nat.le_refl _, fun _ _ _ => rfl⟩
  unfold RRow
  rw [hxs]
  exact hown
 ·refine wp_append_own W s x 28 ho B 47 i0 (.agg #[.int .i64 0, .int .u64 0, .int .u64 0, .int .u64 0, .int .u64 0, .int .i64 0, .int .i64 0, .int .i64 0, .int .i64 0, .int .i64 0]) 10 80 Tryz.underlying28 hi hz0 hz1 hz2 rfl (by decide) _ _ _ hs hown ⟨g, 0, none⟩ n cap (flat xs) hx hrow.1 (World.ownsRow.cells hrow (g := g) rfl) (flat_one xs) (by unfold maxLen; omega) (by omega) (by omega) ?_
  intro v' W' h1 h2 h3
  refine h v' W' ?_ h2
  unfold RRow
  simpa using h1
theorem wp_snoc {W : World} {o : Oper} {a : Act} {K : Act → World → Prop} {Q : Exit → Act → World → Prop} {s x : Operand}
  (ho : o.op = .call { callee := .builtin .append, args := #[s, x], argTypes := #[28, 28] }) {B : Nat} {v : Value} {n : Nat} {xs : List Nd} (hs : a.eval s = v) (hrow : RRow W B v n xs)
  {k : Nat} {c : Nat} {y : Nd} (hk : NB3 W k y) (hx : a.eval x = .slice (some ⟨k, 0, none⟩) 1 c) (hn : n ≤ 1000000) (hB : B ≤ k)
  (h : ∀ v' W', RRow W' B v' (n + 1) (xs ++ [y]) → W.grownBy W' v.ownBlock → K (a.put o.dst v') W') : o.wp Tryz.prog a W K Q := by
 obtain ⟨i0, hi, hz0, hz1, hz2⟩ := info_parts infoRn
 have hlt := hk.lt
 refine wp_append_own W s x 28 ho B 47 i0 (.agg #[.int .i64 0, .int .u64 0, .int .u64 0, .int .u64 0, .int .u64 0, .int .i64 0, .int .i64 0, .int .i64 0, .int .i64 0, .int .i64 0]) 10 80 Tryz.underlying28 hi hz0 hz1 hz2 rfl (by decide) _ _ _ hs hrow ⟨k, 0, none⟩ 1 c y.cells.toList hx rfl ?_ (nd_one y) (by unfold maxLen; omega) (by omega) (by omega) ?_
 ·intro j u hj
  rw [Addr.add_lit, Nat.zero_add]
  exact (hk.c j).trans (by simpa using hj)
 ·intro v' W' h1 h2 h3
  refine h v' W' ?_ h2
  unfold RRow
  rw [flat_end]
  exact h1
theorem row_row {W : World} {B n : Nat} {v : Value} {xs : List Nd} (h : RRow W B v n xs) {b : Nat} (hp : b < B) (c : Array Value) : RRow (W.setRow b c) B v n xs := by
 refine ⟨h.1, ?_⟩
 rcases h.2 with h1 | ⟨g, cap, cur, h1, h2, h3, h4⟩
 ·exact .inl h1
 ·refine .inr ⟨g, cap, cur, h1, h2, ?_, h4⟩
  show (W.heap.modify b _)[g]? = _
  rw [Array.getElem?_modify, if_neg (by omega)]; exact h3
theorem row_set {W : World} {B n : Nat} {v : Value} {xs : List Nd} (h : RRow W B v n xs) {p : Addr} (hp : p.block < B) (u : Value) : RRow (W.setCell p u) B v n xs := by
 refine ⟨h.1, ?_⟩
 rcases h.2 with h1 | ⟨g, cap, cur, h1, h2, h3, h4⟩
 ·exact .inl h1
 ·exact .inr ⟨g, cap, cur, h1, h2, (Below.heap_setCell W p u g (by omega)).trans h3, h4⟩
theorem leafU_c (p : Option Addr) (n c : Nat) (g : Int) (en : Nat → Bool) (a e : Int) (x : Nd) (xs : List Nd) (hn : n ≤ 999999) (w : World) (hrow : RRow w 0 (.slice p n c) n xs) :
  Calls Tryz.prog 53 #[.agg (sc (.slice p n c) g en a e), .agg x.cells] w fun r w' => ∃ p' c', r = .returned (.agg (sc (.slice p' (n + 1) c') g en a e)) ∧ RRow w' w.heap.size (.slice p' (n + 1) c') (n + 1) (xs ++ [x]) ∧ Below w.heap.size w w' := by
 obtain ⟨hz, hsz2⟩ := zero_of_info (P := Tryz.prog) infoSt
 obtain ⟨b, hb⟩ : ∃ b, b = w.heap.size := ⟨_, rfl⟩
 obtain ⟨W0, hW⟩ : ∃ W0, W0 = ((w.alloc (.cells (sc (.slice p n c) g en a e) 69)).alloc (.cells x.cells 47)).alloc (.cells (sc (.slice none 0 0) 0 (fun _ => false) 0 0) 69) := ⟨_, rfl⟩
 have s0 : W0.heap.size = b + 3 := by rw [hW, hb]; simp
 have hS : ST W0 b (.slice p n c) g en a e := by rw [hW, hb]; exact ((ST.new w _ _ _ _ _).alloc _).alloc _
 have hN : NB3 W0 (b + 1) x := by
  rw [hW, hb]
  have := (NB3.new (w.alloc (.cells (sc (.slice p n c) g en a e) 69)) x).alloc (.cells (sc (.slice none 0 0) 0 (fun _ => false) 0 0) 69)
  rwa [World.size_alloc] at this
 have hZ : ST W0 (b + 1 + 1) (.slice none 0 0) 0 (fun _ => false) 0 0 := by
  rw [hW, hb]
  have := ST.new ((w.alloc (.cells (sc (.slice p n c) g en a e) 69)).alloc (.cells x.cells 47)) (.slice none 0 0) 0 (fun _ => false) 0 0
  rwa [World.size_alloc, World.size_alloc] at this
 have hB0 : Below b w W0 := by rw [hW, hb]; exact (((Below.refl _ w).alloc (Nat.le_refl _) _).alloc (by simp) _).alloc (by simp; omega) _
 have hX0 : RRow W0 0 (.slice p n c) n xs := by rw [hW]; exact row_alloc (row_alloc (row_alloc hrow _) _) _
 have hw := hW
 rw [← hb]
 have HS := Lib.hid hS
 have HN := Lib.hid hN
 have HZ := Lib.hid hZ
 have HB0 := Lib.hid hB0
 have HX0 := Lib.hid hX0
 have HW := Lib.hid hW
 have HB := Lib.hid hb
 clear hS hN hZ hB0 hX0 hw hrow hW hb
 unfold sc Nd.cells at HW
 unfold sc at hz
 dsimp only at hz HW
 unfold sc Nd.cells
 generalize h0 : en 0 = n0, h1 : en 1 = n1, h2 : en 2 = n2, h3 : en 3 = n3, h4 : en 4 = n4, h5 : en 5 = n5, h6 : en 6 = n6, h7 : en 7 = n7, h8 : en 8 = n8, h9 : en 9 = n9 at *
 go_enter Tryz.func53, Tryz.ntmps53
 go_upto_region 1 with fail
 rw [← HW.out, ← HB.out]
 clear HW hz hsz2
 refine wp_region_noPanic ?_
 refine wp_region_held_drew (S := fun W => NB3 W (b + 1) x) (by kernel_rfl) ⟨HN.out.heap⟩ (fun _ => ?_)
 have HM := Lib.hid ((Below.refl (b + 3) W0).drew)
 generalize W0.drew = W at *
 refine wpAnyH_take (i := 1) (v := ?_) rfl (by kernel_rfl) (by kernel_rfl) (by kernel_rfl) (fun _ _ _ h => h) (Or.inl ⟨by kernel_rfl, ?_⟩) (by exact HN.out.below HM.out (by omega)) ?_
 rotate_left
 ·(intro w hSw; (try dsimp only at hSw); go_simp); (try with_reducible rfl)
 try simp only [Act.put, laS]
 refine wpAnyH_take (i := 4) (v := ?_) rfl (by kernel_rfl) (by kernel_rfl) (by kernel_rfl) (fun _ _ _ h => h) (Or.inl ⟨by kernel_rfl, ?_⟩) (by exact HN.out.below HM.out (by omega)) ?_
 rotate_left
 ·(intro w hSw; (try dsimp only at hSw); have d0 : w.cell? ⟨b + 1, 0, none⟩ = some (.int .i64 x.kind) := hSw.c 0; have d1 : w.cell? ⟨b + 1, 1, none⟩ = some (.int .u64 x.w0) := hSw.c 1; have d2 : w.cell? ⟨b + 1, 2, none⟩ = some (.int .u64 x.w1) := hSw.c 2; have d3 : w.cell? ⟨b + 1, 3, none⟩ = some (.int .u64 x.w2) := hSw.c 3; have d4 : w.cell? ⟨b + 1, 4, none⟩ = some (.int .u64 x.w3) := hSw.c 4; have d5 : w.cell? ⟨b + 1, 5, none⟩ = some (.int .i64 x.a) := hSw.c 5; have d6 : w.cell? ⟨b + 1, 6, none⟩ = some (.int .i64 x.b) := hSw.c 6; have d7 : w.cell? ⟨b + 1, 7, none⟩ = some (.int .i64 x.mn) := hSw.c 7; have d8 : w.cell? ⟨b + 1, 8, none⟩ = some (.int .i64 x.mx) := hSw.c 8; have d9 : w.cell? ⟨b + 1, 9, none⟩ = some (.int .i64 x.n) := hSw.c 9; go_simp); (try with_reducible rfl)
 try simp only [Act.put, laS]
 refine wpAnyH_ready (rs := [0, 2, 5]) (by kernel_rfl) (by simp) ?_
 refine AllReadyH.cons rfl (fun K hK => ?_) (AllReadyH.cons rfl (fun K hK => ?_) (AllReadyH.cons rfl (fun K hK => ?_) (AllReadyH.nil)))
 go_simp
 have HE := Lib.hid (NE3.new W)
 have hsW := HM.out.size
 have HM2 := Lib.hid (HM.out.alloc (by omega) (.cells #[] 47))
 clear HM
 have HM := HM2
 clear HM2
 generalize hE0 : W.heap.size = E at *
 generalize W.alloc (.cells #[] 47) = W at *
 have hE : b + 3 ≤ E := by omega
 clear hE0 hsW
 refine hK.out _ _ (HN.out.below HM.out (by omega)) (fun _ => ?_)
 clear hK K
 try simp only [Act.put, laS]
 refine wpAnyH_ready (rs := [2, 5]) (by kernel_rfl) (by simp) ?_
 refine AllReadyH.cons rfl (fun K hK => ?_) (AllReadyH.cons rfl (fun K hK => ?_) (AllReadyH.nil))
 have c0 : W.cell? ⟨b, 0, none⟩ = some (.slice p n c) := (HS.out.below HM.out (by omega)).cell 0
 go_simp
 clear c0
 refine hK.out _ _ (HN.out.below HM.out (by omega)) (fun _ => ?_)
 clear hK K
 try simp only [Act.put, laS]
 refine wpAnyH_ready (rs := [3, 5]) (by kernel_rfl) (by simp) ?_
 refine AllReadyH.cons rfl (fun K hK => ?_) (AllReadyH.cons rfl (fun K hK => ?_) (AllReadyH.nil))
 refine wp_copy (s := .tmp 5) (x := .tmp 7) rfl HE.out rfl rfl (row_below HX0.out (s0 ▸ HM.out)) (by omega) hE ?_
 intro v8 W hr8 hg8
 obtain ⟨p8, c8, rfl⟩ := row_shape hr8
 have H8 := Lib.hid hr8
 have hsW := HM.out.size
 have HM2 := Lib.hid (HM.out.grown hg8 (by omega) (by intro k hk; have := Option.some.inj hk; omega))
 clear HM
 have HM := HM2
 clear HM2 hr8 hsW
 clear hg8 HE
 refine hK.out _ _ (HN.out.below HM.out (by omega)) (fun _ => ?_)
 clear hK K
 try simp only [Act.put, laS]
 refine wpAnyH_ready (rs := [5]) (by kernel_rfl) (by simp) ?_
 refine AllReadyH.cons rfl (fun K hK => ?_) (AllReadyH.nil)
 go_simp
 have HC := Lib.hid (NB3.new W x)
 unfold Nd.cells at HC
 have hsW := HM.out.size
 have HM2 := Lib.hid (HM.out.alloc (by omega) (.cells #[.int .i64 x.kind, .int .u64 x.w0, .int .u64 x.w1, .int .u64 x.w2, .int .u64 x.w3, .int .i64 x.a, .int .i64 x.b, .int .i64 x.mn, .int .i64 x.mx, .int .i64 x.n] 47))
 clear HM
 have HM := HM2
 clear HM2
 have H82 := Lib.hid (row_alloc H8.out (.cells #[.int .i64 x.kind, .int .u64 x.w0, .int .u64 x.w1, .int .u64 x.w2, .int .u64 x.w3, .int .i64 x.a, .int .i64 x.b, .int .i64 x.mn, .int .i64 x.mx, .int .i64 x.n] 47))
 clear H8
 have H8 := H82
 clear H82
 generalize hC0 : W.heap.size = C at *
 generalize W.alloc (.cells #[.int .i64 x.kind, .int .u64 x.w0, .int .u64 x.w1, .int .u64 x.w2, .int .u64 x.w3, .int .i64 x.a, .int .i64 x.b, .int .i64 x.mn, .int .i64 x.mx, .int .i64 x.n] 47) = W at *
 have hC : b + 3 ≤ C := by omega
 clear hC0 hsW
 refine hK.out _ _ (HN.out.below HM.out (by omega)) (fun _ => ?_)
 clear hK K
 try simp only [Act.put, laS]
 rotate_left
 go_simp
 have HC := Lib.hid (NB3.new W x)
 unfold Nd.cells at HC
 have hsW := HM.out.size
 have HM2 := Lib.hid (HM.out.alloc (by omega) (.cells #[.int .i64 x.kind, .int .u64 x.w0, .int .u64 x.w1, .int .u64 x.w2, .int .u64 x.w3, .int .i64 x.a, .int .i64 x.b, .int .i64 x.mn, .int .i64 x.mx, .int .i64 x.n] 47))
 clear HM
 have HM := HM2
 clear HM2
 have HE2 := Lib.hid (HE.out.alloc (.cells #[.int .i64 x.kind, .int .u64 x.w0, .int .u64 x.w1, .int .u64 x.w2, .int .u64 x.w3, .int .i64 x.a, .int .i64 x.b, .int .i64 x.mn, .int .i64 x.mx, .int .i64 x.n] 47))
 have hEC := HE.out.lt
 clear HE
 have HE := HE2
 clear HE2
 generalize hC0 : W.heap.size = C at *
 generalize W.alloc (.cells #[.int .i64 x.kind, .int .u64 x.w0, .int .u64 x.w1, .int .u64 x.w2, .int .u64 x.w3, .int .i64 x.a, .int .i64 x.b, .int .i64 x.mn, .int .i64 x.mx, .int .i64 x.n] 47) = W at *
 have hC : b + 3 ≤ C := by omega
 clear hC0 hsW
 refine hK.out _ _ (HN.out.below HM.out (by omega)) (fun _ => ?_)
 clear hK K
 try simp only [Act.put, laS]
 refine wpAnyH_ready (rs := [3]) (by kernel_rfl) (by simp) ?_
 refine AllReadyH.cons rfl (fun K hK => ?_) (AllReadyH.nil)
 refine wp_copy (s := .tmp 5) (x := .tmp 7) rfl HE.out rfl rfl (row_below HX0.out (s0 ▸ HM.out)) (by omega) hE ?_
 intro v8 W hr8 hg8
 obtain ⟨p8, c8, rfl⟩ := row_shape hr8
 have H8 := Lib.hid hr8
 have hsW := HM.out.size
 have HM2 := Lib.hid (HM.out.grown hg8 (by omega) (by intro k hk; have := Option.some.inj hk; omega))
 clear HM
 have HM := HM2
 clear HM2 hr8 hsW
 have HC2 := Lib.hid (HC.out.grown hg8 (by omega))
 clear HC
 have HC := HC2
 clear HC2
 clear hg8 HE
 refine hK.out _ _ (HN.out.below HM.out (by omega)) (fun _ => ?_)
 clear hK K
 try simp only [Act.put, laS]
 rotate_left
 go_simp
 have HC := Lib.hid (NB3.new W x)
 unfold Nd.cells at HC
 have hsW := HM.out.size
 have HM2 := Lib.hid (HM.out.alloc (by omega) (.cells #[.int .i64 x.kind, .int .u64 x.w0, .int .u64 x.w1, .int .u64 x.w2, .int .u64 x.w3, .int .i64 x.a, .int .i64 x.b, .int .i64 x.mn, .int .i64 x.mx, .int .i64 x.n] 47))
 clear HM
 have HM := HM2
 clear HM2
 have HE2 := Lib.hid (HE.out.alloc (.cells #[.int .i64 x.kind, .int .u64 x.w0, .int .u64 x.w1, .int .u64 x.w2, .int .u64 x.w3, .int .i64 x.a, .int .i64 x.b, .int .i64 x.mn, .int .i64 x.mx, .int .i64 x.n] 47))
 have hEC := HE.out.lt
 clear HE
 have HE := HE2
 clear HE2
 generalize hC0 : W.heap.size = C at *
 generalize W.alloc (.cells #[.int .i64 x.kind, .int .u64 x.w0, .int .u64 x.w1, .int .u64 x.w2, .int .u64 x.w3, .int .i64 x.a, .int .i64 x.b, .int .i64 x.mn, .int .i64 x.mx, .int .i64 x.n] 47) = W at *
 have hC : b + 3 ≤ C := by omega
 clear hC0 hsW
 refine hK.out _ _ (HN.out.below HM.out (by omega)) (fun _ => ?_)
 clear hK K
 try simp only [Act.put, laS]
 refine wpAnyH_ready (rs := [2]) (by kernel_rfl) (by simp) ?_
 refine AllReadyH.cons rfl (fun K hK => ?_) (AllReadyH.nil)
 have c0 : W.cell? ⟨b, 0, none⟩ = some (.slice p n c) := (HS.out.below HM.out (by omega)).cell 0
 go_simp
 clear c0
 refine hK.out _ _ (HN.out.below HM.out (by omega)) (fun _ => ?_)
 clear hK K
 try simp only [Act.put, laS]
 refine wpAnyH_ready (rs := [3]) (by kernel_rfl) (by simp) ?_
 refine AllReadyH.cons rfl (fun K hK => ?_) (AllReadyH.nil)
 refine wp_copy (s := .tmp 5) (x := .tmp 7) rfl HE.out rfl rfl (row_below HX0.out (s0 ▸ HM.out)) (by omega) hE ?_
 intro v8 W hr8 hg8
 obtain ⟨p8, c8, rfl⟩ := row_shape hr8
 have H8 := Lib.hid hr8
 have hsW := HM.out.size
 have HM2 := Lib.hid (HM.out.grown hg8 (by omega) (by intro k hk; have := Option.some.inj hk; omega))
 clear HM
 have HM := HM2
 clear HM2 hr8 hsW
 have HC2 := Lib.hid (HC.out.grown hg8 (by omega))
 clear HC
 have HC := HC2
 clear HC2
 clear hg8 HE
 refine hK.out _ _ (HN.out.below HM.out (by omega)) (fun _ => ?_)
 clear hK K
 try simp only [Act.put, laS]
 rotate_left
 have c0 : W.cell? ⟨b, 0, none⟩ = some (.slice p n c) := (HS.out.below HM.out (by omega)).cell 0
 go_simp
 clear c0
 refine hK.out _ _ (HN.out.below HM.out (by omega)) (fun _ => ?_)
 clear hK K
 try simp only [Act.put, laS]
 refine wpAnyH_ready (rs := [0, 5]) (by kernel_rfl) (by simp) ?_
 refine AllReadyH.cons rfl (fun K hK => ?_) (AllReadyH.cons rfl (fun K hK => ?_) (AllReadyH.nil))
 go_simp
 have HE := Lib.hid (NE3.new W)
 have hsW := HM.out.size
 have HM2 := Lib.hid (HM.out.alloc (by omega) (.cells #[] 47))
 clear HM
 have HM := HM2
 clear HM2
 generalize hE0 : W.heap.size = E at *
 generalize W.alloc (.cells #[] 47) = W at *
 have hE : b + 3 ≤ E := by omega
 clear hE0 hsW
 refine hK.out _ _ (HN.out.below HM.out (by omega)) (fun _ => ?_)
 clear hK K
 try simp only [Act.put, laS]
 refine wpAnyH_ready (rs := [3, 5]) (by kernel_rfl) (by simp) ?_
 refine AllReadyH.cons rfl (fun K hK => ?_) (AllReadyH.cons rfl (fun K hK => ?_) (AllReadyH.nil))
 refine wp_copy (s := .tmp 5) (x := .tmp 7) rfl HE.out rfl rfl (row_below HX0.out (s0 ▸ HM.out)) (by omega) hE ?_
 intro v8 W hr8 hg8
 obtain ⟨p8, c8, rfl⟩ := row_shape hr8
 have H8 := Lib.hid hr8
 have hsW := HM.out.size
 have HM2 := Lib.hid (HM.out.grown hg8 (by omega) (by intro k hk; have := Option.some.inj hk; omega))
 clear HM
 have HM := HM2
 clear HM2 hr8 hsW
 clear hg8 HE
 refine hK.out _ _ (HN.out.below HM.out (by omega)) (fun _ => ?_)
 clear hK K
 try simp only [Act.put, laS]
 refine wpAnyH_ready (rs := [5]) (by kernel_rfl) (by simp) ?_
 refine AllReadyH.cons rfl (fun K hK => ?_) (AllReadyH.nil)
 go_simp
 have HC := Lib.hid (NB3.new W x)
 unfold Nd.cells at HC
 have hsW := HM.out.size
 have HM2 := Lib.hid (HM.out.alloc (by omega) (.cells #[.int .i64 x.kind, .int .u64 x.w0, .int .u64 x.w1, .int .u64 x.w2, .int .u64 x.w3, .int .i64 x.a, .int .i64 x.b, .int .i64 x.mn, .int .i64 x.mx, .int .i64 x.n] 47))
 clear HM
 have HM := HM2
 clear HM2
 have H82 := Lib.hid (row_alloc H8.out (.cells #[.int .i64 x.kind, .int .u64 x.w0, .int .u64 x.w1, .int .u64 x.w2, .int .u64 x.w3, .int .i64 x.a, .int .i64 x.b, .int .i64 x.mn, .int .i64 x.mx, .int .i64 x.n] 47))
 clear H8
 have H8 := H82
 clear H82
 generalize hC0 : W.heap.size = C at *
 generalize W.alloc (.cells #[.int .i64 x.kind, .int .u64 x.w0, .int .u64 x.w1, .int .u64 x.w2, .int .u64 x.w3, .int .i64 x.a, .int .i64 x.b, .int .i64 x.mn, .int .i64 x.mx, .int .i64 x.n] 47) = W at *
 have hC : b + 3 ≤ C := by omega
 clear hC0 hsW
 refine hK.out _ _ (HN.out.below HM.out (by omega)) (fun _ => ?_)
 clear hK K
 try simp only [Act.put, laS]
 rotate_left
 go_simp
 have HC := Lib.hid (NB3.new W x)
 unfold Nd.cells at HC
 have hsW := HM.out.size
 have HM2 := Lib.hid (HM.out.alloc (by omega) (.cells #[.int .i64 x.kind, .int .u64 x.w0, .int .u64 x.w1, .int .u64 x.w2, .int .u64 x.w3, .int .i64 x.a, .int .i64 x.b, .int .i64 x.mn, .int .i64 x.mx, .int .i64 x.n] 47))
 clear HM
 have HM := HM2
 clear HM2
 have HE2 := Lib.hid (HE.out.alloc (.cells #[.int .i64 x.kind, .int .u64 x.w0, .int .u64 x.w1, .int .u64 x.w2, .int .u64 x.w3, .int .i64 x.a, .int .i64 x.b, .int .i64 x.mn, .int .i64 x.mx, .int .i64 x.n] 47))
 have hEC := HE.out.lt
 clear HE
 have HE := HE2
 clear HE2
 generalize hC0 : W.heap.size = C at *
 generalize W.alloc (.cells #[.int .i64 x.kind, .int .u64 x.w0, .int .u64 x.w1, .int .u64 x.w2, .int .u64 x.w3, .int .i64 x.a, .int .i64 x.b, .int .i64 x.mn, .int .i64 x.mx, .int .i64 x.n] 47) = W at *
 have hC : b + 3 ≤ C := by omega
 clear hC0 hsW
 refine hK.out _ _ (HN.out.below HM.out (by omega)) (fun _ => ?_)
 clear hK K
 try simp only [Act.put, laS]
 refine wpAnyH_ready (rs := [3]) (by kernel_rfl) (by simp) ?_
 refine AllReadyH.cons rfl (fun K hK => ?_) (AllReadyH.nil)
 refine wp_copy (s := .tmp 5) (x := .tmp 7) rfl HE.out rfl rfl (row_below HX0.out (s0 ▸ HM.out)) (by omega) hE ?_
 intro v8 W hr8 hg8
 obtain ⟨p8, c8, rfl⟩ := row_shape hr8
 have H8 := Lib.hid hr8
 have hsW := HM.out.size
 have HM2 := Lib.hid (HM.out.grown hg8 (by omega) (by intro k hk; have := Option.some.inj hk; omega))
 clear HM
 have HM := HM2
 clear HM2 hr8 hsW
 have HC2 := Lib.hid (HC.out.grown hg8 (by omega))
 clear HC
 have HC := HC2
 clear HC2
 clear hg8 HE
 refine hK.out _ _ (HN.out.below HM.out (by omega)) (fun _ => ?_)
 clear hK K
 try simp only [Act.put, laS]
 rotate_left
 go_simp
 have HC := Lib.hid (NB3.new W x)
 unfold Nd.cells at HC
 have hsW := HM.out.size
 have HM2 := Lib.hid (HM.out.alloc (by omega) (.cells #[.int .i64 x.kind, .int .u64 x.w0, .int .u64 x.w1, .int .u64 x.w2, .int .u64 x.w3, .int .i64 x.a, .int .i64 x.b, .int .i64 x.mn, .int .i64 x.mx, .int .i64 x.n] 47))
 clear HM
 have HM := HM2
 clear HM2
 generalize hC0 : W.heap.size = C at *
 generalize W.alloc (.cells #[.int .i64 x.kind, .int .u64 x.w0, .int .u64 x.w1, .int .u64 x.w2, .int .u64 x.w3, .int .i64 x.a, .int .i64 x.b, .int .i64 x.mn, .int .i64 x.mx, .int .i64 x.n] 47) = W at *
 have hC : b + 3 ≤ C := by omega
 clear hC0 hsW
 refine hK.out _ _ (HN.out.below HM.out (by omega)) (fun _ => ?_)
 clear hK K
 try simp only [Act.put, laS]
 refine wpAnyH_ready (rs := [0]) (by kernel_rfl) (by simp) ?_
 refine AllReadyH.cons rfl (fun K hK => ?_) (AllReadyH.nil)
 go_simp
 have HE := Lib.hid (NE3.new W)
 have hsW := HM.out.size
 have HM2 := Lib.hid (HM.out.alloc (by omega) (.cells #[] 47))
 clear HM
 have HM := HM2
 clear HM2
 have HC2 := Lib.hid (HC.out.alloc (.cells #[] 47))
 have hEC := HC.out.lt
 clear HC
 have HC := HC2
 clear HC2
 generalize hE0 : W.heap.size = E at *
 generalize W.alloc (.cells #[] 47) = W at *
 have hE : b + 3 ≤ E := by omega
 clear hE0 hsW
 refine hK.out _ _ (HN.out.below HM.out (by omega)) (fun _ => ?_)
 clear hK K
 try simp only [Act.put, laS]
 refine wpAnyH_ready (rs := [3]) (by kernel_rfl) (by simp) ?_
 refine AllReadyH.cons rfl (fun K hK => ?_) (AllReadyH.nil)
 refine wp_copy (s := .tmp 5) (x := .tmp 7) rfl HE.out rfl rfl (row_below HX0.out (s0 ▸ HM.out)) (by omega) hE ?_
 intro v8 W hr8 hg8
 obtain ⟨p8, c8, rfl⟩ := row_shape hr8
 have H8 := Lib.hid hr8
 have hsW := HM.out.size
 have HM2 := Lib.hid (HM.out.grown hg8 (by omega) (by intro k hk; have := Option.some.inj hk; omega))
 clear HM
 have HM := HM2
 clear HM2 hr8 hsW
 have HC2 := Lib.hid (HC.out.grown hg8 (by omega))
 clear HC
 have HC := HC2
 clear HC2
 clear hg8 HE
 refine hK.out _ _ (HN.out.below HM.out (by omega)) (fun _ => ?_)
 clear hK K
 try simp only [Act.put, laS]
 rotate_left
 go_simp
 have HC := Lib.hid (NB3.new W x)
 unfold Nd.cells at HC
 have hsW := HM.out.size
 have HM2 := Lib.hid (HM.out.alloc (by omega) (.cells #[.int .i64 x.kind, .int .u64 x.w0, .int .u64 x.w1, .int .u64 x.w2, .int .u64 x.w3, .int .i64 x.a, .int .i64 x.b, .int .i64 x.mn, .int .i64 x.mx, .int .i64 x.n] 47))
 clear HM
 have HM := HM2
 clear HM2
 generalize hC0 : W.heap.size = C at *
 generalize W.alloc (.cells #[.int .i64 x.kind, .int .u64 x.w0, .int .u64 x.w1, .int .u64 x.w2, .int .u64 x.w3, .int .i64 x.a, .int .i64 x.b, .int .i64 x.mn, .int .i64 x.mx, .int .i64 x.n] 47) = W at *
 have hC : b + 3 ≤ C := by omega
 clear hC0 hsW
 refine hK.out _ _ (HN.out.below HM.out (by omega)) (fun _ => ?_)
 clear hK K
 try simp only [Act.put, laS]
 refine wpAnyH_ready (rs := [0, 2]) (by kernel_rfl) (by simp) ?_
 refine AllReadyH.cons rfl (fun K hK => ?_) (AllReadyH.cons rfl (fun K hK => ?_) (AllReadyH.nil))
 go_simp
 have HE := Lib.hid (NE3.new W)
 have hsW := HM.out.size
 have HM2 := Lib.hid (HM.out.alloc (by omega) (.cells #[] 47))
 clear HM
 have HM := HM2
 clear HM2
 have HC2 := Lib.hid (HC.out.alloc (.cells #[] 47))
 have hEC := HC.out.lt
 clear HC
 have HC := HC2
 clear HC2
 generalize hE0 : W.heap.size = E at *
 generalize W.alloc (.cells #[] 47) = W at *
 have hE : b + 3 ≤ E := by omega
 clear hE0 hsW
 refine hK.out _ _ (HN.out.below HM.out (by omega)) (fun _ => ?_)
 clear hK K
 try simp only [Act.put, laS]
 refine wpAnyH_ready (rs := [2]) (by kernel_rfl) (by simp) ?_
 refine AllReadyH.cons rfl (fun K hK => ?_) (AllReadyH.nil)
 have c0 : W.cell? ⟨b, 0, none⟩ = some (.slice p n c) := (HS.out.below HM.out (by omega)).cell 0
 go_simp
 clear c0
 refine hK.out _ _ (HN.out.below HM.out (by omega)) (fun _ => ?_)
 clear hK K
 try simp only [Act.put, laS]
 refine wpAnyH_ready (rs := [3]) (by kernel_rfl) (by simp) ?_
 refine AllReadyH.cons rfl (fun K hK => ?_) (AllReadyH.nil)
 refine wp_copy (s := .tmp 5) (x := .tmp 7) rfl HE.out rfl rfl (row_below HX0.out (s0 ▸ HM.out)) (by omega) hE ?_
 intro v8 W hr8 hg8
 obtain ⟨p8, c8, rfl⟩ := row_shape hr8
 have H8 := Lib.hid hr8
 have hsW := HM.out.size
 have HM2 := Lib.hid (HM.out.grown hg8 (by omega) (by intro k hk; have := Option.some.inj hk; omega))
 clear HM
 have HM := HM2
 clear HM2 hr8 hsW
 have HC2 := Lib.hid (HC.out.grown hg8 (by omega))
 clear HC
 have HC := HC2
 clear HC2
 clear hg8 HE
 refine hK.out _ _ (HN.out.below HM.out (by omega)) (fun _ => ?_)
 clear hK K
 try simp only [Act.put, laS]
 rotate_left
 have c0 : W.cell? ⟨b, 0, none⟩ = some (.slice p n c) := (HS.out.below HM.out (by omega)).cell 0
 go_simp
 clear c0
 refine hK.out _ _ (HN.out.below HM.out (by omega)) (fun _ => ?_)
 clear hK K
 try simp only [Act.put, laS]
 refine wpAnyH_ready (rs := [0]) (by kernel_rfl) (by simp) ?_
 refine AllReadyH.cons rfl (fun K hK => ?_) (AllReadyH.nil)
 go_simp
 have HE := Lib.hid (NE3.new W)
 have hsW := HM.out.size
 have HM2 := Lib.hid (HM.out.alloc (by omega) (.cells #[] 47))
 clear HM
 have HM := HM2
 clear HM2
 have HC2 := Lib.hid (HC.out.alloc (.cells #[] 47))
 have hEC := HC.out.lt
 clear HC
 have HC := HC2
 clear HC2
 generalize hE0 : W.heap.size = E at *
 generalize W.alloc (.cells #[] 47) = W at *
 have hE : b + 3 ≤ E := by omega
 clear hE0 hsW
 refine hK.out _ _ (HN.out.below HM.out (by omega)) (fun _ => ?_)
 clear hK K
 try simp only [Act.put, laS]
 refine wpAnyH_ready (rs := [3]) (by kernel_rfl) (by simp) ?_
 refine AllReadyH.cons rfl (fun K hK => ?_) (AllReadyH.nil)
 refine wp_copy (s := .tmp 5) (x := .tmp 7) rfl HE.out rfl rfl (row_below HX0.out (s0 ▸ HM.out)) (by omega) hE ?_
 intro v8 W hr8 hg8
 obtain ⟨p8, c8, rfl⟩ := row_shape hr8
 have H8 := Lib.hid hr8
 have hsW := HM.out.size
 have HM2 := Lib.hid (HM.out.grown hg8 (by omega) (by intro k hk; have := Option.some.inj hk; omega))
 clear HM
 have HM := HM2
 clear HM2 hr8 hsW
 have HC2 := Lib.hid (HC.out.grown hg8 (by omega))
 clear HC
 have HC := HC2
 clear HC2
 clear hg8 HE
 refine hK.out _ _ (HN.out.below HM.out (by omega)) (fun _ => ?_)
 clear hK K
 try simp only [Act.put, laS]
 rotate_left
 all_goals
  refine wpAnyH_ready (rs := [6]) (by kernel_rfl) (by simp) ?_
  refine AllReadyH.cons rfl (fun K hK => ?_) (AllReadyH.nil)
  have hlt8 := World.ownsRow.lt H8.out
  refine wp_snoc (s := .tmp 8) (x := .tmp 10) rfl rfl H8.out HC.out rfl (by omega) hC ?_
  intro v9 W hr9 hg9
  obtain ⟨p9, c9, rfl⟩ := row_shape hr9
  have H9 := Lib.hid hr9
  have hsW := HM.out.size
  have HM2 := Lib.hid (HM.out.grown hg9 (by omega) (fun k hk => (hlt8 k hk).1))
  clear HM
  have HM := HM2
  clear HM2 hr9 hsW hg9 H8 HC hlt8
  refine hK.out _ _ (HN.out.below HM.out (by omega)) (fun _ => ?_)
  clear hK K
  try simp only [Act.put, laS]
  refine wpAnyH_ready (rs := [7]) (by kernel_rfl) (by simp) ?_
  refine AllReadyH.cons rfl (fun K hK => ?_) (AllReadyH.nil)
  go_simp
  refine hK.out _ _ (HN.out.below HM.out (by omega)) (fun _ => ?_)
  clear hK K
  try simp only [Act.put, laS]
  refine wpAnyH_ready (rs := [8]) (by kernel_rfl) (by simp) ?_
  refine AllReadyH.cons rfl (fun K hK => ?_) (AllReadyH.nil)
  have c0 : W.cell? ⟨b, 0, none⟩ = some (.slice p n c) := (HS.out.below HM.out (by omega)).cell 0
  have f0 : W.frozen? ⟨b, 0, none⟩ = false := (HS.out.below HM.out (by omega)).fz 0
  go_simp
  clear c0 f0
  refine hK.out _ _ ⟨?_⟩ (fun _ => ?_)
  ·exact (Below.heap_setCell _ _ _ (b + 1) (by show b + 1 ≠ b; omega)).trans (HN.out.below HM.out (by omega)).heap
  clear hK K
  try simp only [Act.put, laS]
  have hS9 := (HS.out.below HM.out (by omega)).setV (.slice p9 (n + 1) c9)
  have hZ9 := (HZ.out.below HM.out (by omega)).other (p := ⟨b, 0, none⟩) (by show b + 1 + 1 ≠ b; omega) (.slice p9 (n + 1) c9)
  have hB9 := (HB0.out.trans (HM.out.mono (by omega : b ≤ b + 3))).setCell (p := ⟨b, 0, none⟩) (Nat.le_refl _) (.slice p9 (n + 1) c9)
  have h9 := row_set H9.out (p := ⟨b, 0, none⟩) (by show b < b + 3; omega) (.slice p9 (n + 1) c9)
  clear HM H9
  refine wpAnyH_done (by kernel_rfl) ?_ _
  refine NoPanic.normal ?_
  generalize W.setCell ⟨b, 0, none⟩ (.slice p9 (n + 1) c9) = W at *
  have HS9 := Lib.hid hS9
  have HZ9 := Lib.hid hZ9
  have HB9 := Lib.hid hB9
  have H9 := Lib.hid h9
  clear hS9 hZ9 hB9 h9
  subst h0 h1 h2 h3 h4 h5 h6 h7 h8 h9
  go_upto_region 2 with fail
  refine wp_region_lit ?_
  refine wpl_load_st HS9.out rfl rfl rfl ?_
  simp only [Act.put, List.setIfInBounds_toArray, List.set_cons_zero, List.set_cons_succ]
  refine wpl_store_st HZ9.out (v' := .slice p9 (n + 1) c9) rfl rfl rfl rfl rfl ?_
  have q := (HZ9.out.put (.slice p9 (n + 1) c9) g en a e).load
  have HQ := Lib.hid q
  have HR := Lib.hid (row_row H9.out (show b + 1 + 1 < b + 3 by omega) (sc (.slice p9 (n + 1) c9) g en a e))
  have HB2 := Lib.hid (Below.setRow HB9.out (show b ≤ b + 1 + 1 by omega) (sc (.slice p9 (n + 1) c9) g en a e))
  clear q HS9 HZ9 HB9 H9
  simp only [Act.put]
  go_wp2
  have q := HQ.out
  exact bodyPost_ret (v := .agg (sc (.slice p9 (n + 1) c9) g en a e)) (by simp [results, Tryz.results53, asAddr, Result.andThen, q]) rfl ⟨p9, c9, rfl, row_weak HR.out (by omega), HB2.out⟩
end Go.Proofs.YtkcbknfhckomcaaGreatDoor
