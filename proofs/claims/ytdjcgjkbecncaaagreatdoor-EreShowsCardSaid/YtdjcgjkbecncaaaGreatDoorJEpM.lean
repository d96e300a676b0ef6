/- ere: a chain: what is carried over its parts, from the last one but one to the first one. -/
import Derived.Test.YtdjcgjkbecncaaaGreatDoorJEpJ
import Derived.Test.YtdjcgjkbecncaaaGreatDoorJBrIe
import Derived.OrdersHeld
import Derived.Deep.Upon
import Derived.Deep.DeepCutAuto
import Derived.Maps.AppendAt
set_option linter.unusedVariables false
set_option linter.unusedSimpArgs false
set_option maxRecDepth 100000
set_option maxHeartbeats 40000000
namespace Go.Proofs.YtdjcgjkbecncaaaGreatDoor
open Go.RowKit Go.Shelf
def chX (k : Int) (p : ES × Int) (pre : List (Nat × Int)) : ES × Int := pre.foldl (fun p x => ch1 k p x.2) p
theorem chX_next (k : Int) (p : ES × Int) (pre : List (Nat × Int)) (x : Nat × Int) : chX k p (pre ++ [x]) = ch1 k (chX k p pre) x.2 := by simp [chX]
theorem chX_bkd (k : Int) (l : List Int) (z : Int) (r : ES) : chX k (r, z) (bkd (l ++ [z]) l.length l.length) = chE k r (l ++ [z]) := by
 have h := bkd_snd l z l.length (Nat.le_refl _)
 rw [List.take_of_length_le (by simp)] at h
 unfold chE
 rw [show (l ++ [z]).dropLast = l by simp, show (l ++ [z]).getLastD 0 = z by simp, ← h, List.foldl_map]
 rfl
section
variable {B b mb : Nat} {mo : Obj} {s : List UInt8} {r : ES} {vl vL v' v'' : Value} {vo : List (Value × Value)} {vt : Value × Value} {w w' wL W W' : World} {k : Int} {B4 B5 g : Nat} {p0 : ES × Int} {pre : List (Nat × Int)}
theorem EM.keepI (h : EM B b mb mo s r vl vL vo vt w) (B4 : Nat) (hI : ∀ v ∈ vals (vo ++ [vt]), v.ownBlock ≠ some B4)
  (k : ∀ i c T fz, w.heap[i]? = some (.cells c T fz) → (T = 3 → i ≠ B4) → w'.heap[i]? = some (.cells c T fz)) (hm : w'.heap[mb]? = some mo) : EM B b mb mo s r vl vL vo vt w' := by
 have ow : ∀ {T : TypeId} {n sz : Nat} {v : Value} {xs : List Value}, w.ownsRow B T sz v n xs → (T = 3 → v.ownBlock ≠ some B4) → w'.ownsRow B T sz v n xs := fun {T n sz v xs} ho hT => by
  refine ⟨ho.1, ?_⟩
  rcases ho.2 with hn | ⟨g, cap, cur, e, h1, hg, rest⟩
  ·exact .inl hn
  ·exact .inr ⟨g, cap, cur, e, h1, k g _ _ _ hg (fun hTi e2 => hT hTi (by rw [e, e2]; rfl)), rest⟩
 exact ⟨k b _ _ _ h.heap (fun e => absurd e (by decide)), h.ge, hm, h.nc, ⟨ow h.P.nl (fun e => absurd e (by decide)), ow h.P.lw (fun e => absurd e (by decide)), lvs_keep2 (vo := vo ++ [vt]) (fun v hv n xs ho => ow ho (fun _ => hI v hv)) h.P.ls, h.P.ap, h.P.nodes⟩, h.len, h.small, h.gs⟩
def EStill (wL : World) (b B4 i : Nat) : Prop := ∃ o, wL.heap[i]? = some o ∧ (∀ c fz, o ≠ Obj.cells c 37 fz) ∧ i ≠ b ∧ i ≠ B4
structure ECT (wL : World) (B b mb B4 B5 g : Nat) (vo : List (Value × Value)) (vt : Value × Value) : Prop where
 b4 : B ≤ B4 ∧ B4 < wL.heap.size ∧ b ≠ B4
 lm : mb < wL.heap.size
 hI : ∀ v ∈ vals (vo ++ [vt]), v.ownBlock ≠ some B4
 s5 : EStill wL b B4 B5
 sg : EStill wL b B4 g
structure ECS (wL : World) (B b mb : Nat) (mo : Obj) (s : List UInt8) (vL : Value) (vo : List (Value × Value)) (vt : Value × Value) (k : Int) (B4 : Nat) (p0 : ES × Int) (pre : List (Nat × Int)) (v' : Value) (W : World) : Prop where
 x : EM B b mb mo s (chX k p0 pre).1 v' vL vo vt W
 bel : Below B wL W
 kt : ∀ i o, wL.heap[i]? = some o → i ≠ b → i ≠ B4 → (∀ c fz, o ≠ Obj.cells c 37 fz) → W.heap[i]? = some o
 b4 : Boxed W B4 3 (.int .i64 (chX k p0 pre).2)
theorem ECS.still (h : ECS wL B b mb mo s vL vo vt k B4 p0 pre v' W) {i : Nat} (hi : EStill wL b B4 i) : W.heap[i]? = wL.heap[i]? := by
 obtain ⟨o, h1, h2, h3, h4⟩ := hi
 rw [h1]
 exact h.kt i o h1 h3 h4 h2
theorem ECS.grown (c : ECT wL B b mb B4 B5 g vo vt) (h : ECS wL B b mb mo s vL vo vt k B4 p0 pre v' W) {row : Option Nat} (hg : W.grownBy W' row) (hr : ∀ r, row = some r → wL.heap.size ≤ r ∧ ∃ o : Obj, W.heap[r]? = some o ∧ o.isCells = false) : ECS wL B b mb mo s vL vo vt k B4 p0 pre v' W' := by
 have hs := h.bel.size
 have nb : ∀ k o, W.heap[k]? = some o → o.isCells = true → some k ≠ row := fun k o hk ho e => by
  obtain ⟨_, o', h1, h2⟩ := hr k e.symm
  rw [hk] at h1; cases h1; rw [ho] at h2; cases h2
 have hlb := c.b4
 refine ⟨h.x.keepI B4 c.hI (fun i cc T fz hi _ => (hg.block i (Array.getElem?_eq_some_iff.1 hi).1 (nb _ _ hi rfl)).trans hi) ?_, h.bel.grown hg (by omega) (fun k hk => by have := (hr k hk).1; omega), fun i o hi h1 h2 h3 => ?_, h.b4.kept hg (nb _ _ h.b4 rfl)⟩
 ·have := c.lm
  exact (hg.block mb (by omega) (fun e => by have := (hr mb e.symm).1; omega)).trans h.x.map
 ·have hil := (Array.getElem?_eq_some_iff.1 hi).1
  exact (hg.block i (by omega) (fun e => by have := (hr i e.symm).1; omega)).trans (h.kt i o hi h1 h2 h3)
theorem ECS.own (c : ECT wL B b mb B4 B5 g vo vt) : OwnFrom wL.heap.size (fun pre W => ∃ v', ECS wL B b mb mo s vL vo vt k B4 p0 pre v' W) := fun pre A B row ⟨v', h⟩ hg hr => ⟨v', h.grown c hg hr⟩
theorem ECS.next (c : ECT wL B b mb B4 B5 g vo vt) (h : ECS wL B b mb mo s vL vo vt k B4 p0 pre v' W) (x : Nat × Int) (hx : EM B b mb mo s (chX k p0 (pre ++ [x])).1 v'' vL vo vt W') (hk : EK B b W W') :
  KeepsFrom wL.heap.size W (W'.setCell ⟨B4, 0, none⟩ (.int .i64 (chX k p0 (pre ++ [x])).2)) ∧ Hold2 B5 g W (W'.setCell ⟨B4, 0, none⟩ (.int .i64 (chX k p0 (pre ++ [x])).2)) ∧
   ∃ v', ECS wL B b mb mo s vL vo vt k B4 p0 (pre ++ [x]) v' (W'.setCell ⟨B4, 0, none⟩ (.int .i64 (chX k p0 (pre ++ [x])).2)) := by
 obtain ⟨c1, c2, c3⟩ := c.b4
 have hs := h.bel.size
 have hset : ∀ i, i ≠ B4 → (W'.setCell ⟨B4, 0, none⟩ (.int .i64 (chX k p0 (pre ++ [x])).2)).heap[i]? = W'.heap[i]? := fun i hi => Below.heap_setCell _ _ _ _ (fun e => hi e)
 have hb4 : Boxed W' B4 3 (.int .i64 (chX k p0 pre).2) := hk.k B4 _ h.b4 (fun e => c3 e.symm) (fun T hT c fz e => by simp only [List.mem_singleton] at hT; subst hT; cases e)
 have hmb : mb ≠ B4 := fun e => by
  have h1 := hx.map; have h2 := hx.nc
  rw [e, show W'.heap[B4]? = _ from hb4] at h1; cases h1; cases h2
 have hN : ECS wL B b mb mo s vL vo vt k B4 p0 (pre ++ [x]) v'' (W'.setCell ⟨B4, 0, none⟩ (.int .i64 (chX k p0 (pre ++ [x])).2)) := by
  refine ⟨hx.keepI B4 c.hI (fun i cc T fz hi hT => ?_) ((hset mb hmb).trans hx.map), (h.bel.trans hk.bel).setCell (p := ⟨B4, 0, none⟩) c1 _, fun i o hi h1 h2 h3 => ?_, hb4.set _⟩
  ·have hne : i ≠ B4 := fun e => by
    rw [e, show W'.heap[B4]? = _ from hb4] at hi
    cases hi
    exact hT rfl e
   exact (hset i hne).trans hi
  ·refine (hset i h2).trans (hk.k i o (h.kt i o hi h1 h2 h3) h1 (fun T hT c fz e => ?_))
   simp only [List.mem_singleton] at hT
   subst hT
   exact h3 _ _ e
 refine ⟨⟨hN.bel.size |> fun _ => Nat.le_trans hk.bel.size (by simp), fun i o hi1 hi2 ho => ?_⟩, ⟨?_, ?_⟩, v'', hN⟩
 ·have k4 : i ≠ B4 := by omega
  have kb : i ≠ b := fun e => by
   rw [e, h.x.heap] at hi2; cases hi2; cases ho
  refine (hset i k4).trans (hk.k i o hi2 kb (fun T hT c fz e => by subst e; cases ho))
 ·exact (hN.still c.s5).trans (h.still c.s5).symm
 ·exact (hN.still c.sg).trans (h.still c.sg).symm
end
end Go.Proofs.YtdjcgjkbecncaaaGreatDoor
namespace Go.Proofs.YtdjcgjkbecncaaaGreatDoor
open Go.RowKit Go.Shelf
attribute [local go_sem] Oper.semAt_some
section
variable {B b mb : Nat} {mo : Obj} {s : List UInt8} {r : ES} {vl vL : Value} {vo : List (Value × Value)} {vt : Value × Value} {w : World}
theorem echain_in (k : Int) (l : List Int) (z : Int) (g cap : Nat) (w : World) (h : EM B b mb mo s r vl vL vo vt w) (hlc : l.length + 1 ≤ cap) (hll : l.length ≤ 300000) (hcm : cap ≤ maxLen)
  (hint : Ints w g (l.length + 1) (l ++ [z])) (hgI : ∃ c, w.heap[g]? = some (.cells c 3 (0, 0))) :
  CallsIn Fence.wide 5 Tryz.prog 72 #[.pointer (some ⟨b, 0, none⟩), .int .i64 k, .slice (some ⟨g, 0, none⟩) (l.length + 1) cap] w fun e w' =>
   e = .returned (.int .i64 (chE k r (l ++ [z])).2) ∧ ∃ vl', EM B b mb mo s (chE k r (l ++ [z])).1 vl' vL vo vt w' ∧ EK B b w w' := by
 have hlt := h.lt
 have hge := h.ge
 have hgl : g < w.heap.size := by obtain ⟨c, hc⟩ := hgI; exact (Array.getElem?_eq_some_iff.1 hc).1
 have hcz := hint.cell l.length (by omega)
 rw [show (l ++ [z]).getD l.length 0 = z by simp] at hcz
 have H := Lib.hid h
 have HIN := Lib.hid hint
 have HGI := Lib.hid hgI
 obtain ⟨m, hm⟩ : ∃ m, m = l.length := ⟨_, rfl⟩
 rw [← hm] at hlc hll hcz ⊢
 have HM := Lib.hid hm
 have ew : IntKind.i64.wrap ((m : Int) + 1 - 1) = (m : Int) := by simp [IntKind.wrap, IntKind.signed, IntKind.bits]; omega
 have hcc2 : (0 : Int) ≤ (m : Int) ∧ (m : Int) ≤ (cap : Int) := by omega
 have hbc0 : (0 : Int) ≤ (m : Int) ∧ (m : Int) < (m : Int) + 1 := by omega
 have HBK := Lib.hid (fun (w : World) => back_c (some ⟨g, 0, none⟩) m cap w)
 clear h hint hgI hm
 refine callsIn_of_wp_marks Tryz.func72 rfl trivial ?_ rfl
 simp only [Tryz.ntmps72, List.size_toArray, List.length_cons, List.length_nil, Nat.reduceAdd, Nat.reduceSub, Array.replicate_succ, Array.replicate_zero, List.push_toArray, List.append_toArray, List.nil_append, List.cons_append]
 gi_wp2_with fail
 (try refine ⟨trivial, ?_⟩)
 gi_at_call 101
 refine (callsIn_wide.2 (HBK.out _)).mono ?_
 rintro e wd ⟨rfl, rfl⟩
 clear HBK
 gi_wp2_with fail
 obtain ⟨wL, hwL⟩ : ∃ wL, wL = (((w.alloc (.cells #[.pointer (some ⟨b, 0, none⟩)] 64)).alloc (.cells #[.int .i64 k] 3)).alloc (.cells #[.int .i64 z] 3)).alloc (.cells #[.slice (some ⟨g, 0, none⟩) m cap] 53) := ⟨_, rfl⟩
 have hsL : wL.heap.size = w.heap.size + 1 + 1 + 1 + 1 := by rw [hwL]; simp only [World.size_alloc]
 have hb5L : Boxed wL (w.heap.size + 1 + 1 + 1) 53 (.slice (some ⟨g, 0, none⟩) m cap) := by
  have := Boxed.new (((w.alloc (.cells #[.pointer (some ⟨b, 0, none⟩)] 64)).alloc (.cells #[.int .i64 k] 3)).alloc (.cells #[.int .i64 z] 3)) 53 (.slice (some ⟨g, 0, none⟩) m cap)
  simp only [World.size_alloc] at this
  rw [hwL]; exact this
 have hb4L : Boxed wL (w.heap.size + 1 + 1) 3 (.int .i64 z) := by
  have := (Boxed.new ((w.alloc (.cells #[.pointer (some ⟨b, 0, none⟩)] 64)).alloc (.cells #[.int .i64 k] 3)) 3 (.int .i64 z)).alloc (.cells #[.slice (some ⟨g, 0, none⟩) m cap] 53)
  simp only [World.size_alloc] at this
  rw [hwL]; exact this
 have hb2L : Boxed wL (w.heap.size + 1) 3 (.int .i64 k) := by
  have := ((Boxed.new (w.alloc (.cells #[.pointer (some ⟨b, 0, none⟩)] 64)) 3 (.int .i64 k)).alloc (.cells #[.int .i64 z] 3)).alloc (.cells #[.slice (some ⟨g, 0, none⟩) m cap] 53)
  simp only [World.size_alloc] at this
  rw [hwL]; exact this
 have hb1L : Boxed wL w.heap.size 64 (.pointer (some ⟨b, 0, none⟩)) := by
  have := (((Boxed.new w 64 (.pointer (some ⟨b, 0, none⟩))).alloc (.cells #[.int .i64 k] 3)).alloc (.cells #[.int .i64 z] 3)).alloc (.cells #[.slice (some ⟨g, 0, none⟩) m cap] 53)
  rw [hwL]; exact this
 have hBwL : Below w.heap.size w wL := by
  rw [hwL]
  exact ((((Below.refl _ w).alloc (Nat.le_refl _) _).alloc (by simp only [World.size_alloc]; omega) _).alloc (by simp only [World.size_alloc]; omega) _).alloc (by simp only [World.size_alloc]; omega) _
 rw [← hwL]
 clear hwL
 have hIL : Ints wL g m (l ++ [z]) := by
  obtain ⟨cs, T, fl, h1, h2⟩ := HIN.out
  exact ⟨cs, T, fl, (hBwL.block g hgl).trans h1, fun j hj => h2 j (by have := HM.out; omega)⟩
 have hxL := H.out.below hBwL
 have hgL : ∃ c, wL.heap[g]? = some (.cells c 3 (0, 0)) := by
  obtain ⟨c, hc⟩ := HGI.out
  exact ⟨c, (hBwL.block g hgl).trans hc⟩
 have hgb : g ≠ b := fun e => by
  obtain ⟨c, hc⟩ := hgL
  rw [e, hxL.heap] at hc; cases hc
 have CTL : ECT wL B b mb (w.heap.size + 1 + 1) (w.heap.size + 1 + 1 + 1) g vo vt := by
  refine ⟨⟨by omega, by omega, by omega⟩, (Array.getElem?_eq_some_iff.1 hxL.map).1, fun v hv e => ?_, ⟨_, hb5L, (fun c fz e => by cases e), by omega, by omega⟩, ?_⟩
  ·obtain ⟨n, xs, ho⟩ := lvs_own H.out.P.ls v hv
   have := (ho.lt _ e).2
   omega
  ·obtain ⟨c, hc⟩ := hgL
   exact ⟨_, hc, (fun c fz e => by cases e), hgb, by omega⟩
 have CS0 : ECS wL B b mb mo s vL vo vt k (w.heap.size + 1 + 1) (r, z) [] vl wL := ⟨hxL, Below.refl _ _, fun i o hi _ _ _ => hi, hb4L⟩
 have HB1 := Lib.hid hb1L
 have HB2 := Lib.hid hb2L
 have HCM := Lib.hid (chX_bkd k l z r)
 have hgs := (Array.getElem?_eq_some_iff.1 hgL.choose_spec).1
 clear hb1L hb2L hb4L hxL hgL hgb hcz ew hcc2 hbc0
 refine wpIn_rangeFunc_ownG rfl (by omega) (gf := 127) (lb := #[.pointer (some ⟨w.heap.size + 1 + 1 + 1, 0, none⟩)]) rfl trivial (enters_of Tryz.func127 (by kernel_rfl) rfl)
  (back_stops (5 - 1) (by omega) (w.heap.size + 1 + 1 + 1) g m cap (l ++ [z]) (by omega) wL hb5L hIL hgs) (fun h k => h.trans k) (hold2_b hb5L.lt hgs) (Below.refl _ _) (fun _ => rfl)
  (fun pre W => ∃ v', ECS wL B b mb mo s vL vo vt k (w.heap.size + 1 + 1) (r, z) pre v' W)
  (fun _ _ _ => False)
  (ECS.own CTL)
  (fun _ _ _ _ _ hs _ _ => hs)
  ⟨_, CS0⟩
  (fun x => { tmps := #[.pointer (some ⟨b, 0, none⟩), .int .i64 k, .slice (some ⟨g, 0, none⟩) (m + 1) cap, .pointer (some ⟨w.heap.size, 0, none⟩), .pointer (some ⟨w.heap.size + 1, 0, none⟩), undef, .int .i64 0, .int .i64 (m : Int), .pointer (some ⟨w.heap.size + 1 + 1, 0, none⟩), undef, .int .i64 x.2, .slice (some ⟨g, 0, none⟩) (m + 1) cap, .int .i64 ((m : Int) + 1), .int .i64 (m : Int), .slice (some ⟨g, 0, none⟩) (m + 1) cap, .int .i64 (m : Int), .pointer (some ⟨g, m, none⟩), .int .i64 z, .slice (some ⟨g, 0, none⟩) (m + 1) cap, .int .i64 (m : Int), .slice (some ⟨g, 0, none⟩) m cap, .func (.func 127) #[] #[.pointer (some ⟨w.heap.size + 1 + 1 + 1, 0, none⟩)], .int .i64 (x.1 : Int), .int .i64 x.2, undef, undef, undef, undef, undef, undef, undef], defers := [] }) ?assign ?body ?done ?stop
 case assign =>
  intro lp x W K hK
  gi_wp2
  exact hK
 case body =>
  rintro lp pre x W ⟨v', hCS⟩ hlt
  have hq1 : Boxed W w.heap.size 64 (.pointer (some ⟨b, 0, none⟩)) := hCS.kt _ _ HB1.out (by omega) (by omega) (fun c fz e => by cases e)
  have hq2 : Boxed W (w.heap.size + 1) 3 (.int .i64 k) := hCS.kt _ _ HB2.out (by omega) (by omega) (fun c fz e => by cases e)
  have hc1 := hq1.cell
  have hc2 := hq2.cell
  have hc4 := hCS.b4.cell
  have hp := eput_c ⟨k, 0, 0, 0, 0, x.2, (chX k (r, z) pre).2, 0, 0, 0⟩ W hCS.x
  simp only at hp
  have HPT := Lib.hid hp
  have HCS := Lib.hid hCS
  have HCT := Lib.hid CTL
  have HSL := Lib.hid hsL
  clear hp hCS CTL CS0 hsL hb5L hIL hBwL HCM hq1 hq2
  gi_wp2_with fail
  (try refine ⟨trivial, ?_⟩)
  gi_at_call 102
  refine (CallsIn.inRound lp (callsIn_wide.2 HPT.out)).mono ?_
  rintro e w5 ⟨rfl, v5, x5, k5⟩
  have hb45 : Boxed w5 (w.heap.size + 1 + 1) 3 (.int .i64 (chX k (r, z) pre).2) := k5.k _ _ HCS.out.b4 (fun e => HCT.out.b4.2.2 e.symm) (fun T hT c fz e => by simp only [List.mem_singleton] at hT; subst hT; cases e)
  have hc45 := hb45.cell
  have hf45 := hb45.frozen
  have hN := ECS.next HCT.out HCS.out x (by rw [chX_next]; exact x5) k5
  rw [chX_next] at hN
  have HN := Lib.hid hN
  clear hN x5 k5 hb45 HPT
  gi_wp2
  exact HN.out
 case done =>
  rintro D ys W hD rfl ⟨v', hCS⟩ hK
  have hG := hCS.grown CTL (grownBy_putObj' W D (.deferred none)) (fun r e => by cases e; exact ⟨hD, _, hK, rfl⟩)
  have hx := hG.x
  have hb4 := hCS.b4
  rw [HM.out, HCM.out] at hx hb4
  have hc4 := hb4.cell
  have hkt : KeepT [37] b w (W.putObj D (.deferred none)) := fun i o hi hne ho => by
   have hil := (Array.getElem?_eq_some_iff.1 hi).1
   exact hG.kt i o ((hBwL.block i hil).trans hi) hne (by omega) (fun c fz e => ho _ (by simp) c fz e)
  have hbel : Below B w (W.putObj D (.deferred none)) := (hBwL.mono (by omega)).trans hG.bel
  have HRR := Lib.hid (And.intro hx (EK.mk hbel hkt))
  clear hx hG hCS CTL CS0 hb5L hIL hBwL HCM hkt hbel hb4
  gi_wp2
  refine ⟨by simp, .inl ⟨_, _, rfl, run_takeDeferred hK, ?_⟩⟩
  exact ⟨.int .i64 (chE k r (l ++ [z])).2, by simp [results, Tryz.results72, go_sem], rfl, v', HRR.out.1, HRR.out.2⟩
 case stop =>
  rintro D c pre W _ _ h _
  exact h.elim
theorem echain_c (k : Int) (l : List Int) (z : Int) (g cap : Nat) (w : World) (h : EM B b mb mo s r vl vL vo vt w) (hlc : l.length + 1 ≤ cap) (hll : l.length ≤ 300000) (hcm : cap ≤ maxLen)
  (hint : Ints w g (l.length + 1) (l ++ [z])) (hgI : ∃ c, w.heap[g]? = some (.cells c 3 (0, 0))) :
  Calls Tryz.prog 72 #[.pointer (some ⟨b, 0, none⟩), .int .i64 k, .slice (some ⟨g, 0, none⟩) (l.length + 1) cap] w fun e w' =>
   e = .returned (.int .i64 (chE k r (l ++ [z])).2) ∧ ∃ vl', EM B b mb mo s (chE k r (l ++ [z])).1 vl' vL vo vt w' ∧ EK B b w w' :=
 (callsIn_wide (n := 5)).1 (echain_in k l z g cap w h hlc hll hcm hint hgI)
theorem ints_of {w : World} {B n : Nat} {v : Value} {ps : List Int} (ho : w.ownsRow B 3 1 v (n + 1) (ilist ps)) (hn : ps.length = n + 1) :
  ∃ g cap, v = .slice (some ⟨g, 0, none⟩) (n + 1) cap ∧ n + 1 ≤ cap ∧ cap ≤ maxLen ∧ Ints w g (n + 1) ps ∧ ∃ c, w.heap[g]? = some (.cells c 3 (0, 0)) := by
 rcases ho.2 with ⟨_, h0⟩ | ⟨g, cap, cur, e, _, hg, h1, h2, _, ht⟩
 ·omega
 ·refine ⟨g, cap, e, h1, h2, ⟨cur, _, _, hg, fun j hj => ?_⟩, ⟨_, hg⟩⟩
  have h3 : (cur.toList.take ((n + 1) * 1))[j]? = (ilist ps)[j]? := by rw [ht]
  rw [List.getElem?_take_of_lt (by omega)] at h3
  rw [← Array.getElem?_toList, h3]
  simp [ilist, List.getD, List.getElem?_eq_getElem (show j < ps.length by omega)]
end
end Go.Proofs.YtdjcgjkbecncaaaGreatDoor
namespace Go.Proofs.YtdjcgjkbecncaaaGreatDoor
open Go.RowKit
theorem apart_sym {a c : Value} (h : apart a c) : apart c a := by
 unfold apart at *
 cases e : c.ownBlock with
 | none => exact .inl rfl
 | some j =>
  refine .inr (fun e2 => ?_)
  rcases h with h | h
  ·rw [h] at e2; cases e2
  ·exact h (by rw [e, ← e2])
section
variable {B b mb : Nat} {mo : Obj} {s : List UInt8} {r : ES} {vl vL : Value} {vo : List (Value × Value)} {vt : Value × Value} {w : World}
theorem EM.rows (h : EM B b mb mo s r vl vL vo vt w) {gL cap : Nat} (hL : vL = .slice (some ⟨gL, 0, none⟩) (r.lo.length + 1) cap) {WA w3 : World} {v' : Value} {i : Int} (hwa : Below w.heap.size w WA) (hgrow : WA.grownBy w3 vt.1.ownBlock)
  (hown : w3.ownsRow B 3 1 v' (r.top.rows.length + 1) (ilist r.top.rows ++ [.int .i64 i])) (hat : v'.ownBlock = vt.1.ownBlock ∨ ∃ k, v'.ownBlock = some k ∧ w.heap.size ≤ k) :
  EM B b mb mo s { r with top := { r.top with rows := r.top.rows ++ [i] } } vl vL vo (v', vt.2) (w3.setCell ⟨gL, r.lo.length * 4 + 2, none⟩ v') ∧ Below B w (w3.setCell ⟨gL, r.lo.length * 4 + 2, none⟩ v') := by
 obtain ⟨hls, htl⟩ := lvs_snoc h.P.ls
 obtain ⟨a1, a2, a3⟩ := ap_parts h.P.ap
 have hll := lvs_len hls
 have hvo := lvs_own hls
 have hw := h.P.lw
 have hwl := hwa.size
 obtain ⟨gL', cap', e, hgB, _, _, hgl, _⟩ := h.P.top
 rw [hL] at e
 cases e
 have hLb : vL.ownBlock = some gL := by rw [hL]; rfl
 have e1 : (r.lo ++ [r.top]).length = r.lo.length + 1 := by simp
 have hw3 : w3.ownsRow B 55 4 vL (r.lo.length + 1) (lrow4 (r.lo ++ [r.top]) (vo ++ [vt])) := by
  rw [e1] at hw
  have hwA : WA.ownsRow B 55 4 vL (r.lo.length + 1) (lrow4 (r.lo ++ [r.top]) (vo ++ [vt])) := own_keepT (b := w.heap.size) hw (KeepT.below (Ts := []) hwa) (by simp) (by rw [hLb]; intro e; have := Option.some.inj e; omega)
  refine hwA.kept hgrow (own_ty (U := 3) hw htl.a (by decide))
 rw [hL] at hw3
 have st := hw3.stored (r.lo.length * 4 + 2) v'
 have hset : (lrow4 (r.lo ++ [r.top]) (vo ++ [vt])).set (r.lo.length * 4 + 2) v' = lrow4 (r.lo ++ [{ r.top with rows := r.top.rows ++ [i] }]) (vo ++ [(v', vt.2)]) := by
  rw [lrow4_app _ _ _ _ hll, lrow4_app _ _ _ _ hll, List.set_append_right _ _ (by rw [lrow4_len _ _ hll]; omega), lrow4_len _ _ hll]
  rw [show r.lo.length * 4 + 2 - r.lo.length * 4 = 2 by omega]
  rfl
 rw [hset] at st
 have gne : ∀ k, v'.ownBlock = some k → k ≠ gL := fun k hk e => by
  subst e
  exact own_blk (U := 55) hown (own_block hw3 rfl).choose_spec (by decide) hk
 refine ⟨EM.lev h (gL := gL) (vX := vt.1) (.inl rfl) hLb (fun k o hk h1 h2 => ?_) ?_ ⟨?_, ?_⟩ (ap_mk a1 (fun a ha => ⟨?_, (a2 a ha).2⟩) ?_), ?_⟩
 ·have hkl := (Array.getElem?_eq_some_iff.1 hk).1
  rw [Below.heap_setCell _ _ _ _ (fun e => h1 e), hgrow.block k (by omega) (fun e => h2 e.symm), hwa.block k hkl]
  exact hk
 ·rw [show (r.lo ++ [({ r.top with rows := r.top.rows ++ [i] } : EL)]).length = r.lo.length + 1 by simp, hL]
  exact st.1
 ·have hb2 : w3.ownsRow B 3 1 v' (r.top.rows ++ [i]).length (ilist (r.top.rows ++ [i])) := by
   rw [List.length_append]; simpa [ilist] using hown
  exact hb2.kept st.2 (.inr (fun e => gne gL e rfl))
 ·have hb : w3.ownsRow B 3 1 vt.2 r.top.items.length (ilist r.top.items) := by
   have hA : WA.ownsRow B 3 1 vt.2 r.top.items.length (ilist r.top.items) := own_keepT (b := w.heap.size) htl.b (KeepT.below (Ts := []) hwa) (by simp) (fun e => by have := (htl.b.lt _ e).2; omega)
   exact hA.kept hgrow (apart_sym a3)
  exact hb.kept st.2 (.inr (fun e => own_blk (U := 55) hb (own_block hw3 rfl).choose_spec (by decide) e))
 ·rcases hat with e | ⟨k, e, hk⟩
  ·have := (a2 a ha).1
   unfold apart at this ⊢
   rw [e]; exact this
  ·obtain ⟨n, xs, ho⟩ := hvo a ha
   unfold apart
   cases ea : a.ownBlock with
   | none => exact .inl rfl
   | some j => refine .inr (fun e2 => ?_); rw [e] at e2; have := Option.some.inj e2; have := (ho.lt j ea).2; omega
 ·refine apart_sym ?_
  rcases hat with e | ⟨k, e, hk⟩
  ·have := apart_sym a3
   unfold apart at this ⊢
   rw [e]; exact this
  ·unfold apart
   cases ea : vt.2.ownBlock with
   | none => exact .inl rfl
   | some j => refine .inr (fun e2 => ?_); rw [e] at e2; have := Option.some.inj e2; have := (htl.b.lt j ea).2; omega
 ·have hge := h.ge
  have hlt := h.lt
  exact ((hwa.mono (by omega)).grown hgrow (by omega) (fun k hk => (htl.a.lt k hk).1)).setCell (p := ⟨gL, r.lo.length * 4 + 2, none⟩) hgB _
theorem EM.noItems (h : EM B b mb mo s r vl vL vo vt w) {gL cap : Nat} (hL : vL = .slice (some ⟨gL, 0, none⟩) (r.lo.length + 1) cap) :
  EM B b mb mo s { r with top := { r.top with items := [] } } vl vL vo (vt.1, .slice none 0 0) (w.setCell ⟨gL, r.lo.length * 4 + 3, none⟩ (.slice none 0 0)) := by
 obtain ⟨hls, htl⟩ := lvs_snoc h.P.ls
 obtain ⟨a1, a2, a3⟩ := ap_parts h.P.ap
 have hll := lvs_len hls
 have hw := h.P.lw
 have hLb : vL.ownBlock = some gL := by rw [hL]; rfl
 have e1 : (r.lo ++ [r.top]).length = r.lo.length + 1 := by simp
 rw [e1, hL] at hw
 have st := hw.stored (r.lo.length * 4 + 3) (.slice none 0 0)
 have hset : (lrow4 (r.lo ++ [r.top]) (vo ++ [vt])).set (r.lo.length * 4 + 3) (.slice none 0 0) = lrow4 (r.lo ++ [{ r.top with items := [] }]) (vo ++ [(vt.1, .slice none 0 0)]) := by
  rw [lrow4_app _ _ _ _ hll, lrow4_app _ _ _ _ hll, List.set_append_right _ _ (by rw [lrow4_len _ _ hll]; omega), lrow4_len _ _ hll]
  rw [show r.lo.length * 4 + 3 - r.lo.length * 4 = 3 by omega]
  rfl
 rw [hset] at st
 have ha : ∀ a : Value, apart a (.slice none 0 0) := fun a => by
  unfold apart
  cases e : a.ownBlock with
  | none => exact .inl rfl
  | some j => exact .inr (by simp [Value.ownBlock])
 refine EM.lev h (gL := gL) (vX := vt.2) (.inr rfl) hLb (fun k o hk h1 h2 => ?_) ?_ ⟨?_, World.ownsRow_nil _ _ _ _⟩ (ap_mk a1 (fun a ham => ⟨(a2 a ham).1, ha a⟩) (ha _))
 ·rw [Below.heap_setCell _ _ _ _ (fun e => h1 e)]; exact hk
 ·rw [show (r.lo ++ [({ r.top with items := [] } : EL)]).length = r.lo.length + 1 by simp, hL]
  exact st.1
 ·exact htl.a.kept st.2 (.inr (fun e => own_blk (U := 55) htl.a (own_block hw rfl).choose_spec (by decide) e))
end
end Go.Proofs.YtdjcgjkbecncaaaGreatDoor
