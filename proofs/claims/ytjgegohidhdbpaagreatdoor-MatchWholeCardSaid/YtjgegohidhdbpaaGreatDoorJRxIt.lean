/- The reference's Table: Whole. -/
import Derived.Test.YtjgegohidhdbpaaGreatDoorJMeD
import Derived.Test.YtjgegohidhdbpaaGreatDoorJMdF
import Derived.Test.YtjgegohidhdbpaaGreatDoorJMeB
import Derived.Test.YtjgegohidhdbpaaGreatDoorJRxTs
import Derived.Test.YtjgegohidhdbpaaGreatDoorJMcC
open Go.Proofs.Tryz
set_option linter.unusedVariables false
set_option linter.unusedSimpArgs false
set_option maxRecDepth 100000
set_option maxHeartbeats 40000000
namespace Go.Proofs.YtjgegohidhdbpaaGreatDoor
open Go.RowKit
def V5 (s : List UInt8) (ot : Option T) (i j : Int) : Cp × Bool := match ot with
 | some t => if 0 ≤ i ∧ i ≤ j ∧ j ≤ (s.length : Int) then (whC s t i.toNat j.toNat, Wq s t i.toNat j.toNat) else (kY, false)
 | none => (kY, false)
structure qfT (w : World) (v : Array Value) (m : Nat) (Wh : Int → Int → Cp × Bool) : Prop where
 shape : ∃ vq vl vc S uq ul uc, v = #[.slice vq vl vc, .string S, .slice uq ul uc] ∧ S.size = m
 call : ∀ W, Below w.heap.size w W → ∀ i j : Int, Calls prog 37 #[.agg v, .int .i64 i, .int .i64 j] W fun e w' => e = .returned (.tuple #[qk (Wh i j).1, .bool (Wh i j).2]) ∧ Below W.heap.size W w'
theorem qfT.below {w w' : World} {v : Array Value} {m : Nat} {Wh : Int → Int → Cp × Bool} (h : qfT w v m Wh) (hB : Below w.heap.size w w') : qfT w' v m Wh := ⟨h.shape, fun W hW => h.call W (hB.trans (hW.mono hB.size))⟩
structure Vx (w W : World) (v : Array Value) : Prop where
 tab : zG W w.heap.size v 69
 res : ∃ V, qm W (w.heap.size + 1) 10 30 V
 bel : Below w.heap.size w W
theorem Vx.below {w W W' : World} {v : Array Value} (h : Vx w W v) (hB : Below W.heap.size W W') : Vx w W' v :=
 ⟨h.tab.below hB h.tab.lt, by obtain ⟨V, hV⟩ := h.res; exact ⟨V, hV.below hB hV.lt⟩, h.bel.trans (hB.mono h.bel.size)⟩
theorem Vx.size {w W : World} {v : Array Value} (h : Vx w W v) : w.heap.size + 1 < W.heap.size := by obtain ⟨V, hV⟩ := h.res; exact hV.lt
theorem Vx.put {w W : World} {v : Array Value} (h : Vx w W v) (d : Cp) : Vx w (UV W (w.heap.size + 1) d) v :=
 ⟨h.tab.keeps (kn d) (by omega), by obtain ⟨V, hV⟩ := h.res; exact qad hV d, h.bel.trans ((kn d).below (by have := h.size; omega) (fun i e => by subst e; exact Nat.le_succ _))⟩
theorem Vx.other {w W : World} {v : Array Value} (h : Vx w W v) {b : Nat} (hb : w.heap.size + 2 ≤ b) (q : Nat) (u : Value) : Vx w (W.setCell ⟨b, q, none⟩ u) v :=
 ⟨h.tab.other (p := ⟨b, q, none⟩) (by show w.heap.size ≠ b; omega) u, by obtain ⟨V, hV⟩ := h.res; exact ⟨V, hV.other (p := ⟨b, q, none⟩) (by show w.heap.size + 1 ≠ b; omega) u⟩, h.bel.setCell (by show w.heap.size ≤ b; omega) u⟩
theorem Vx.ten {w W : World} {v : Array Value} (h : Vx w W v) {b : Nat} (hb : w.heap.size + 2 ≤ b) (d : Cp) : Vx w (UV W b d) v :=
 (((((((((h.other hb 0 _).other hb 1 _).other hb 2 _).other hb 3 _).other hb 4 _).other hb 5 _).other hb 6 _).other hb 7 _).other hb 8 _).other hb 9 _
theorem UW {w : World} {b : Nat} {t : TypeId} {V : Nat → Value} (h : qm w b 10 t V) (d : Cp) : qm (UV w b d) b 10 t (fun g => qj (d g)) :=
 ((((((((((h.set 0 _).set 1 _).set 2 _).set 3 _).set 4 _).set 5 _).set 6 _).set 7 _).set 8 _).set 9 _).congr fun i hi => by
  rcases (by omega : i = 0 ∨ i = 1 ∨ i = 2 ∨ i = 3 ∨ i = 4 ∨ i = 5 ∨ i = 6 ∨ i = 7 ∨ i = 8 ∨ i = 9) with rfl | rfl | rfl | rfl | rfl | rfl | rfl | rfl | rfl | rfl <;> simp
theorem Vx.new (w : World) (v : Array Value) : Vx w ((w.alloc (.cells v 69)).alloc (.cells cZ 30)) v := by
 have h1 := zG.new w v 69
 have h2 := qm.new (w.alloc (.cells v 69)) 10 30 (fun _ => .complex .f64 0 0)
 rw [World.size_alloc] at h2
 exact ⟨h1.alloc _, ⟨_, h2⟩, ((Below.refl _ w).alloc (Nat.le_refl _) _).alloc (by simp) _⟩
abbrev Xb (Z : FZ) : Array Value := #[.slice (some ⟨Z.b, Z.o, none⟩) Z.len Z.cap, .string ⟨Z.s.toArray⟩, .slice (some ⟨Z.gb, 0, none⟩) Z.gl Z.gcap]
theorem qdb (Z : FZ) (hZ : Z.Ok) (t : T) (hN : JG Z (Z.len - 1) (zh Z.s t)) (hm : Wy t ∧ VM t) (i j : Int) (w : World) (hW : Zm Z w) :
  Calls prog 37 #[.agg (Xb Z), .int .i64 i, .int .i64 j] w fun e w' => e = .returned (.tuple #[qk (V5 Z.s (some t) i j).1, .bool (V5 Z.s (some t) i j).2]) ∧ Below w.heap.size w w' := by
 have kR : (⟨Z.s.toArray⟩ : ByteArray).size = Z.s.length := by simp [ByteArray.size]
 obtain ⟨ans, QG⟩ : ∃ a, a = V5 Z.s (some t) i j := ⟨_, rfl⟩
 rw [← QG]
 obtain ⟨nt, Vz⟩ : ∃ nt : Bool, nt = !decide (0 ≤ i ∧ i ≤ j ∧ j ≤ (Z.s.length : Int)) := ⟨_, rfl⟩
 have hl := hN.lt
 have Kx := hZ.l
 have h90 := hZ.s90
 have HNN : Hid (∀ W, Calls prog 15 #[] W fun e w' => e = .returned (qk kY) ∧ Below W.heap.size W w') := ξ (fun W => Y7 W)
 have ZA := ξ (Vx.new w (Xb Z))
 have HW0 := ξ hW
 have KZ := ξ Vz
 have qdo := ξ QG
 have HZ := ξ hZ
 have HFN := ξ hN
 have HM := ξ hm
 have hl0 : ((Z.len : Int) == 0) = false := by rw [beq_eq_false_iff_ne]; omega
 have lw : IntKind.i64.wrap ((Z.len : Int) - 1) = (Z.len : Int) - 1 := by simp [IntKind.wrap, IntKind.signed, IntKind.bits]; omega
 have HLC : Hid (((Z.len - 1 : Nat) : Int) = (Z.len : Int) - 1) := ξ (by omega)
 clear Vz QG hZ hN hm hW
 unfold Xb at *
 go_enter func37, ntmps37
 go_upto_region 1 with fail
 obtain ⟨W2, Vy⟩ : ∃ W2, W2 = ((w.alloc (.cells (Xb Z) 69)).alloc (.cells cZ 30)) := ⟨_, rfl⟩
 unfold Xb at Vy
 rw [← Vy] at ZA ⊢
 clear Vy
 have t0 : W2.cell? ⟨w.heap.size, 0, none⟩ = some (.slice (some ⟨Z.b, Z.o, none⟩) Z.len Z.cap) := ZA.out.tab.cell 0
 have t1 : W2.cell? ⟨w.heap.size, 1, none⟩ = some (.string ⟨Z.s.toArray⟩) := ZA.out.tab.cell 1
 go_cut [29] (fun v wx => v = .bool nt ∧ wx = W2)
 case first =>
  by_cases q1 : i < 0
  ·obtain rfl : true = nt := by rw [KZ.out, decide_eq_false (fun h => by omega)]; rfl
   go_wp2_with fail
   go_meet
   exact ⟨rfl, rfl⟩
  ·by_cases q2 : j < i
   ·obtain rfl : true = nt := by rw [KZ.out, decide_eq_false (fun h => by omega)]; rfl
    go_wp2_with fail
    go_meet
    exact ⟨rfl, rfl⟩
   ·have HV : Hid (nt = decide ((Z.s.length : Int) < j)) := ξ (by
     rw [KZ.out, Bool.eq_iff_iff]
     simp only [Bool.not_eq_true', decide_eq_false_iff_not, decide_eq_true_iff]
     omega)
    go_wp2_with fail
    go_meet
    exact ⟨by rw [HV.out], rfl⟩
 case rest =>
  obtain ⟨rfl, hwc⟩ := hcut
  subst hwc
  cases nt with
  | true =>
   have vZ : Hid (ans = (kY, false)) := ξ (by
    rw [qdo.out]
    show (if 0 ≤ i ∧ i ≤ j ∧ j ≤ (Z.s.length : Int) then _ else _) = _
    have := KZ.out
    rw [if_neg (fun h => by rw [decide_eq_true h] at this; cases this)])
   go_wp2_with fail
   refine (HNN.out _).mono ?_
   rintro e wn ⟨rfl, jG⟩
   unfold qk
   have HJn := ξ ((ZA.out).below jG)
   clear jG
   obtain ⟨V0, qT⟩ := (HJn.out).res
   have r_ := qT.rf10
   have za := ξ (qV qT kY)
   have qE := ξ ((HJn.out).put kY)
   clear qT
   go_wp2
   refine bodyPost_ret (v := .tuple #[.agg (cH kY), .bool false]) (by simp [results, results37, go_sem, za.out]) rfl ?_
   exact ⟨by rw [vZ.out]; rfl, qE.out.bel⟩
  | false =>
   have hij0 : 0 ≤ i ∧ i ≤ j ∧ j ≤ (Z.s.length : Int) := by
    have := KZ.out
    by_cases h : 0 ≤ i ∧ i ≤ j ∧ j ≤ (Z.s.length : Int)
    ·exact h
    ·rw [decide_eq_false h] at this; cases this
   obtain ⟨a, rfl⟩ : ∃ a : Nat, i = a := ⟨i.toNat, by omega⟩
   obtain ⟨b, rfl⟩ : ∃ b : Nat, j = b := ⟨j.toNat, by omega⟩
   have Kq : a ≤ b := by omega
   have hb : b ≤ Z.s.length := by omega
   have qhi : Hid (ans = (whC Z.s t a b, Wq Z.s t a b)) := ξ (by
    rw [qdo.out]
    show (if 0 ≤ (a : Int) ∧ (a : Int) ≤ b ∧ (b : Int) ≤ (Z.s.length : Int) then _ else _) = _
    rw [if_pos hij0]
    rfl)
   have HFC : Hid (∀ W, Zm Z W → Calls prog 66 #[.slice (some ⟨Z.b, Z.o, none⟩) Z.len Z.cap, .slice (some ⟨Z.gb, 0, none⟩) Z.gl Z.gcap, .int .i64 ((Z.len : Int) - 1), .string ⟨Z.s.toArray⟩, .int .i64 (a : Int), .int .i64 (b : Int), qk kY] W (UX (zh Z.s t a b kY) W)) := ξ (fun W hW => by
    have := HFN.out.call a b kY W hW qo.none Kq hb
    rw [HLC.out] at this
    exact this)
   unfold qk at HFC
   clear hij0 KZ qdo HLC
   go_wp2_with fail
   refine wp_region_noPanic ?_
   refine wp_region_held_drew (S := fun w' => Vx w w' (Xb Z)) (by kernel_rfl) ?_ (fun qe => ?_)
   ·(try dsimp only); exact ZA.out.below (Below.refl _ _).drew
   refine tq 0 ?_
   refine tq 1 ?_ (hy := by (intro wq qi; have sJ := qi; have t0 : wq.cell? ⟨w.heap.size, 0, none⟩ = some (.slice (some ⟨Z.b, Z.o, none⟩) Z.len Z.cap) := sJ.tab.cell 0; have t1 : wq.cell? ⟨w.heap.size, 1, none⟩ = some (.string ⟨Z.s.toArray⟩) := sJ.tab.cell 1; have t2 : wq.cell? ⟨w.heap.size, 2, none⟩ = some (.slice (some ⟨Z.gb, 0, none⟩) Z.gl Z.gcap) := sJ.tab.cell 2; go_simp); (try rfl))
   refine tq 2 ?_
   refine tq 3 ?_ (hy := by (intro wq qi; have sJ := qi; have t0 : wq.cell? ⟨w.heap.size, 0, none⟩ = some (.slice (some ⟨Z.b, Z.o, none⟩) Z.len Z.cap) := sJ.tab.cell 0; have t1 : wq.cell? ⟨w.heap.size, 1, none⟩ = some (.string ⟨Z.s.toArray⟩) := sJ.tab.cell 1; have t2 : wq.cell? ⟨w.heap.size, 2, none⟩ = some (.slice (some ⟨Z.gb, 0, none⟩) Z.gl Z.gcap) := sJ.tab.cell 2; go_simp); (try rfl))
   refine tq 4 ?_
   refine tq 5 ?_ (hy := by (intro wq qi; have sJ := qi; have t0 : wq.cell? ⟨w.heap.size, 0, none⟩ = some (.slice (some ⟨Z.b, Z.o, none⟩) Z.len Z.cap) := sJ.tab.cell 0; have t1 : wq.cell? ⟨w.heap.size, 1, none⟩ = some (.string ⟨Z.s.toArray⟩) := sJ.tab.cell 1; have t2 : wq.cell? ⟨w.heap.size, 2, none⟩ = some (.slice (some ⟨Z.gb, 0, none⟩) Z.gl Z.gcap) := sJ.tab.cell 2; go_simp); (try rfl))
   refine tq 6 ?_
   refine tq 7 ?_
   refine tq 8 ?_
   refine tq 9 ?_ (hy := by (intro wq qi; have sJ := qi; have t0 : wq.cell? ⟨w.heap.size, 0, none⟩ = some (.slice (some ⟨Z.b, Z.o, none⟩) Z.len Z.cap) := sJ.tab.cell 0; have t1 : wq.cell? ⟨w.heap.size, 1, none⟩ = some (.string ⟨Z.s.toArray⟩) := sJ.tab.cell 1; have t2 : wq.cell? ⟨w.heap.size, 2, none⟩ = some (.slice (some ⟨Z.gb, 0, none⟩) Z.gl Z.gcap) := sJ.tab.cell 2; go_simp); (try rfl))
   refine tq 10 ?_
   refine tq 11 ?_
   refine wpAnyH_ready (rs := [12, 17]) (by kernel_rfl) (by simp) ?_
   refine AllReadyH.cons rfl (fun K hK => ?_) (AllReadyH.cons rfl (fun K hK => ?_) AllReadyH.nil)
   focus
    go_simp
    have sJ := qe
    refine (HNN.out _).mono ?_
    rintro e w5 ⟨rfl, ki⟩
    unfold qk
    skip
    refine hK.out _ _ ?_ (fun qe => ?_)
    ·(try dsimp only); exact sJ.below ki
    clear hK K sJ ki
    (try simp only [Act.put, zm])
    refine wpAnyH_ready (rs := [13, 17]) (by kernel_rfl) (by simp) ?_
    refine AllReadyH.cons rfl (fun K hK => ?_) (AllReadyH.cons rfl (fun K hK => ?_) AllReadyH.nil)
    focus
     go_simp
     have sJ := qe
     refine (HFC.out _ (HW0.out.below sJ.bel)).mono ?_
     rintro e w6 ⟨⟨d, R, rfl, hR, hd⟩, jY⟩
     unfold qk
     have HR := ξ (ζ hR hd)
     skip
     refine hK.out _ _ ?_ (fun qe => ?_)
     ·(try dsimp only); exact sJ.below jY
     clear hK K sJ jY hR hd
     (try simp only [Act.put, zm])
     refine tq 14 ?_
     refine tq 15 ?_
     refine tq 16 ?_
     refine zU 17 fun K hK => ?_
     have HN0 : Hid (qm (w6.alloc (.cells cZ 30)) w6.heap.size 10 30 (fun _ => .complex .f64 0 0)) := ξ (qm.new w6 10 30 (fun _ => .complex .f64 0 0))
     have HNB : Hid (w.heap.size + 2 ≤ w6.heap.size) := ξ (by have := qe.size; first | omega | (simp at this; omega))
     go_simp
     have sJ := qe
     refine hK.out _ _ ?_ (fun qe => ?_)
     ·(try dsimp only); exact sJ.below ((Below.refl _ _).alloc (Nat.le_refl _) _)
     clear hK K sJ
     generalize (w6.alloc (.cells cZ 30)) = W7 at HN0 qe ⊢
     (try simp only [Act.put, zm])
     refine zU 18 fun K hK => ?_
     have HN6 := HN0
     have r_ := HN6.out.rf10
     have XM : Hid (Vx w ((((((((((W7.setCell ⟨w6.heap.size, 0, none⟩ (qj (d 0))).setCell ⟨w6.heap.size, 1, none⟩ (qj (d 1))).setCell ⟨w6.heap.size, 2, none⟩ (qj (d 2))).setCell ⟨w6.heap.size, 3, none⟩ (qj (d 3))).setCell ⟨w6.heap.size, 4, none⟩ (qj (d 4))).setCell ⟨w6.heap.size, 5, none⟩ (qj (d 5))).setCell ⟨w6.heap.size, 6, none⟩ (qj (d 6))).setCell ⟨w6.heap.size, 7, none⟩ (qj (d 7))).setCell ⟨w6.heap.size, 8, none⟩ (qj (d 8))).setCell ⟨w6.heap.size, 9, none⟩ (qj (d 9))) (Xb Z)) := ξ (qe.ten HNB.out d)
     have HD : Hid (qm ((((((((((W7.setCell ⟨w6.heap.size, 0, none⟩ (qj (d 0))).setCell ⟨w6.heap.size, 1, none⟩ (qj (d 1))).setCell ⟨w6.heap.size, 2, none⟩ (qj (d 2))).setCell ⟨w6.heap.size, 3, none⟩ (qj (d 3))).setCell ⟨w6.heap.size, 4, none⟩ (qj (d 4))).setCell ⟨w6.heap.size, 5, none⟩ (qj (d 5))).setCell ⟨w6.heap.size, 6, none⟩ (qj (d 6))).setCell ⟨w6.heap.size, 7, none⟩ (qj (d 7))).setCell ⟨w6.heap.size, 8, none⟩ (qj (d 8))).setCell ⟨w6.heap.size, 9, none⟩ (qj (d 9))) w6.heap.size 10 30 (fun g => qj (d g))) := ξ (UW HN6.out d)
     go_simp
     refine hK.out _ _ ?_ (fun vL => ?_)
     ·(try dsimp only); exact XM.out
     clear hK K qe r_
     generalize ((((((((((W7.setCell ⟨w6.heap.size, 0, none⟩ (qj (d 0))).setCell ⟨w6.heap.size, 1, none⟩ (qj (d 1))).setCell ⟨w6.heap.size, 2, none⟩ (qj (d 2))).setCell ⟨w6.heap.size, 3, none⟩ (qj (d 3))).setCell ⟨w6.heap.size, 4, none⟩ (qj (d 4))).setCell ⟨w6.heap.size, 5, none⟩ (qj (d 5))).setCell ⟨w6.heap.size, 6, none⟩ (qj (d 6))).setCell ⟨w6.heap.size, 7, none⟩ (qj (d 7))).setCell ⟨w6.heap.size, 8, none⟩ (qj (d 8))).setCell ⟨w6.heap.size, 9, none⟩ (qj (d 9))) = W8 at XM HD vL ⊢
     generalize w6.heap.size = nb at HD HNB HN6 ⊢
     clear HN6 HN0
     (try simp only [Act.put, zm])
    rotate_left
    focus
     have HN0 : Hid (qm (w5.alloc (.cells cZ 30)) w5.heap.size 10 30 (fun _ => .complex .f64 0 0)) := ξ (qm.new w5 10 30 (fun _ => .complex .f64 0 0))
     have HNB : Hid (w.heap.size + 2 ≤ w5.heap.size) := ξ (by have := qe.size; first | omega | (simp at this; omega))
     go_simp
     have sJ := qe
     refine hK.out _ _ ?_ (fun qe => ?_)
     ·(try dsimp only); exact sJ.below ((Below.refl _ _).alloc (Nat.le_refl _) _)
     clear hK K sJ
     generalize (w5.alloc (.cells cZ 30)) = W6 at HN0 qe ⊢
     (try simp only [Act.put, zm])
     refine zU 13 fun K hK => ?_
     go_simp
     have sJ := qe
     refine (HFC.out _ (HW0.out.below sJ.bel)).mono ?_
     rintro e W7 ⟨⟨d, R, rfl, hR, hd⟩, jY⟩
     unfold qk
     have HR := ξ (ζ hR hd)
     have HN6 := ξ (HN0.out.below jY HN0.out.lt)
     refine hK.out _ _ ?_ (fun qe => ?_)
     ·(try dsimp only); exact sJ.below jY
     clear hK K sJ jY hR hd
     (try simp only [Act.put, zm])
     refine tq 14 ?_
     refine tq 15 ?_
     refine tq 16 ?_
     refine zU 18 fun K hK => ?_
     have r_ := HN6.out.rf10
     have XM : Hid (Vx w ((((((((((W7.setCell ⟨w5.heap.size, 0, none⟩ (qj (d 0))).setCell ⟨w5.heap.size, 1, none⟩ (qj (d 1))).setCell ⟨w5.heap.size, 2, none⟩ (qj (d 2))).setCell ⟨w5.heap.size, 3, none⟩ (qj (d 3))).setCell ⟨w5.heap.size, 4, none⟩ (qj (d 4))).setCell ⟨w5.heap.size, 5, none⟩ (qj (d 5))).setCell ⟨w5.heap.size, 6, none⟩ (qj (d 6))).setCell ⟨w5.heap.size, 7, none⟩ (qj (d 7))).setCell ⟨w5.heap.size, 8, none⟩ (qj (d 8))).setCell ⟨w5.heap.size, 9, none⟩ (qj (d 9))) (Xb Z)) := ξ (qe.ten HNB.out d)
     have HD : Hid (qm ((((((((((W7.setCell ⟨w5.heap.size, 0, none⟩ (qj (d 0))).setCell ⟨w5.heap.size, 1, none⟩ (qj (d 1))).setCell ⟨w5.heap.size, 2, none⟩ (qj (d 2))).setCell ⟨w5.heap.size, 3, none⟩ (qj (d 3))).setCell ⟨w5.heap.size, 4, none⟩ (qj (d 4))).setCell ⟨w5.heap.size, 5, none⟩ (qj (d 5))).setCell ⟨w5.heap.size, 6, none⟩ (qj (d 6))).setCell ⟨w5.heap.size, 7, none⟩ (qj (d 7))).setCell ⟨w5.heap.size, 8, none⟩ (qj (d 8))).setCell ⟨w5.heap.size, 9, none⟩ (qj (d 9))) w5.heap.size 10 30 (fun g => qj (d g))) := ξ (UW HN6.out d)
     go_simp
     refine hK.out _ _ ?_ (fun vL => ?_)
     ·(try dsimp only); exact XM.out
     clear hK K qe r_
     generalize ((((((((((W7.setCell ⟨w5.heap.size, 0, none⟩ (qj (d 0))).setCell ⟨w5.heap.size, 1, none⟩ (qj (d 1))).setCell ⟨w5.heap.size, 2, none⟩ (qj (d 2))).setCell ⟨w5.heap.size, 3, none⟩ (qj (d 3))).setCell ⟨w5.heap.size, 4, none⟩ (qj (d 4))).setCell ⟨w5.heap.size, 5, none⟩ (qj (d 5))).setCell ⟨w5.heap.size, 6, none⟩ (qj (d 6))).setCell ⟨w5.heap.size, 7, none⟩ (qj (d 7))).setCell ⟨w5.heap.size, 8, none⟩ (qj (d 8))).setCell ⟨w5.heap.size, 9, none⟩ (qj (d 9))) = W8 at XM HD vL ⊢
     generalize w5.heap.size = nb at HD HNB HN6 ⊢
     clear HN6 HN0
     (try simp only [Act.put, zm])
    rotate_left
   rotate_left
   rotate_left
   focus
    have HN0 : Hid (qm (wc.alloc (.cells cZ 30)) wc.heap.size 10 30 (fun _ => .complex .f64 0 0)) := ξ (qm.new wc 10 30 (fun _ => .complex .f64 0 0))
    have HNB : Hid (w.heap.size + 2 ≤ wc.heap.size) := ξ (by have := qe.size; first | omega | (simp at this; omega))
    go_simp
    have sJ := qe
    refine hK.out _ _ ?_ (fun qe => ?_)
    ·(try dsimp only); exact sJ.below ((Below.refl _ _).alloc (Nat.le_refl _) _)
    clear hK K sJ
    generalize (wc.alloc (.cells cZ 30)) = W5 at HN0 qe ⊢
    (try simp only [Act.put, zm])
    refine zU 12 fun K hK => ?_
    go_simp
    have sJ := qe
    refine (HNN.out _).mono ?_
    rintro e w5 ⟨rfl, ki⟩
    unfold qk
    have HN5 := ξ (HN0.out.drew.below ki HN0.out.drew.lt)
    refine hK.out _ _ ?_ (fun qe => ?_)
    ·(try dsimp only); exact sJ.below ki
    clear hK K sJ ki
    (try simp only [Act.put, zm])
    refine zU 13 fun K hK => ?_
    go_simp
    have sJ := qe
    refine (HFC.out _ (HW0.out.below sJ.bel)).mono ?_
    rintro e W7 ⟨⟨d, R, rfl, hR, hd⟩, jY⟩
    unfold qk
    have HR := ξ (ζ hR hd)
    have HN6 := ξ (HN5.out.below jY HN5.out.lt)
    refine hK.out _ _ ?_ (fun qe => ?_)
    ·(try dsimp only); exact sJ.below jY
    clear hK K sJ jY hR hd
    (try simp only [Act.put, zm])
    refine tq 14 ?_
    refine tq 15 ?_
    refine tq 16 ?_
    refine zU 18 fun K hK => ?_
    clear HN5
    have r_ := HN6.out.rf10
    have XM : Hid (Vx w ((((((((((W7.setCell ⟨wc.heap.size, 0, none⟩ (qj (d 0))).setCell ⟨wc.heap.size, 1, none⟩ (qj (d 1))).setCell ⟨wc.heap.size, 2, none⟩ (qj (d 2))).setCell ⟨wc.heap.size, 3, none⟩ (qj (d 3))).setCell ⟨wc.heap.size, 4, none⟩ (qj (d 4))).setCell ⟨wc.heap.size, 5, none⟩ (qj (d 5))).setCell ⟨wc.heap.size, 6, none⟩ (qj (d 6))).setCell ⟨wc.heap.size, 7, none⟩ (qj (d 7))).setCell ⟨wc.heap.size, 8, none⟩ (qj (d 8))).setCell ⟨wc.heap.size, 9, none⟩ (qj (d 9))) (Xb Z)) := ξ (qe.ten HNB.out d)
    have HD : Hid (qm ((((((((((W7.setCell ⟨wc.heap.size, 0, none⟩ (qj (d 0))).setCell ⟨wc.heap.size, 1, none⟩ (qj (d 1))).setCell ⟨wc.heap.size, 2, none⟩ (qj (d 2))).setCell ⟨wc.heap.size, 3, none⟩ (qj (d 3))).setCell ⟨wc.heap.size, 4, none⟩ (qj (d 4))).setCell ⟨wc.heap.size, 5, none⟩ (qj (d 5))).setCell ⟨wc.heap.size, 6, none⟩ (qj (d 6))).setCell ⟨wc.heap.size, 7, none⟩ (qj (d 7))).setCell ⟨wc.heap.size, 8, none⟩ (qj (d 8))).setCell ⟨wc.heap.size, 9, none⟩ (qj (d 9))) wc.heap.size 10 30 (fun g => qj (d g))) := ξ (UW HN6.out d)
    go_simp
    refine hK.out _ _ ?_ (fun vL => ?_)
    ·(try dsimp only); exact XM.out
    clear hK K qe r_
    generalize ((((((((((W7.setCell ⟨wc.heap.size, 0, none⟩ (qj (d 0))).setCell ⟨wc.heap.size, 1, none⟩ (qj (d 1))).setCell ⟨wc.heap.size, 2, none⟩ (qj (d 2))).setCell ⟨wc.heap.size, 3, none⟩ (qj (d 3))).setCell ⟨wc.heap.size, 4, none⟩ (qj (d 4))).setCell ⟨wc.heap.size, 5, none⟩ (qj (d 5))).setCell ⟨wc.heap.size, 6, none⟩ (qj (d 6))).setCell ⟨wc.heap.size, 7, none⟩ (qj (d 7))).setCell ⟨wc.heap.size, 8, none⟩ (qj (d 8))).setCell ⟨wc.heap.size, 9, none⟩ (qj (d 9))) = W8 at XM HD vL ⊢
    generalize wc.heap.size = nb at HD HNB HN6 ⊢
    clear HN6 HN0
    (try simp only [Act.put, zm])
   rotate_left
   all_goals (
    refine tq 19 ?_
    refine wpAnyH_done (by kernel_rfl) ?_ _
    refine NoPanic.normal ?_
    cases R with
    | false =>
     have vZ : Hid (ans = (kY, false)) := ξ (by
      rw [qhi.out]
      have h1 := HR.out.1
      rw [ju Z.s t HM.out.1 HM.out.2 a b kY qo.none Kq hb] at h1
      have h2 : (qd Z.s t).ends a 0 kY b = false := by
       cases he : (qd Z.s t).ends a 0 kY b with
       | false => rfl
       | true => rw [he, if_pos rfl] at h1; cases h1
      unfold whC Wq
      rw [h2, Bool.and_false]
      rfl)
     go_wp2_with fail
     refine (HNN.out _).mono ?_
     rintro e wn ⟨rfl, jG⟩
     unfold qk
     have HJn := ξ ((XM.out).below jG)
     clear jG
     obtain ⟨V0, qT⟩ := (HJn.out).res
     have r_ := qT.rf10
     have za := ξ (qV qT kY)
     have qE := ξ ((HJn.out).put kY)
     clear qT
     go_wp2
     refine bodyPost_ret (v := .tuple #[.agg (cH kY), .bool false]) (by simp [results, results37, go_sem, za.out]) rfl ?_
     exact ⟨by rw [vZ.out]; rfl, qE.out.bel⟩
    | true =>
     obtain ⟨d', hd'⟩ : ∃ d' : Cp, d' = jO Z.s t a b := ⟨_, rfl⟩
     have vZ : Hid (ans = (d', true)) := ξ (by
      rw [qhi.out, hd']
      have h1 := HR.out.1
      rw [ju Z.s t HM.out.1 HM.out.2 a b kY qo.none Kq hb] at h1
      have h2 : (qd Z.s t).ends a 0 kY b = true := by
       cases he : (qd Z.s t).ends a 0 kY b with
       | true => rfl
       | false => rw [he, if_neg (by simp)] at h1; cases h1
      unfold whC Wq
      rw [h2, Bool.and_true, decide_eq_true Kq]
      rfl)
     have HDD : Hid (∀ g, d' g = if g = 0 then some (a, b) else d g) := ξ (fun g => by
      have h1 := HR.out.1
      have h3 := HR.out.2
      rw [ju Z.s t HM.out.1 HM.out.2 a b kY qo.none Kq hb] at h1 h3
      have h2 : (qd Z.s t).ends a 0 kY b = true := by
       cases he : (qd Z.s t).ends a 0 kY b with
       | true => rfl
       | false => rw [he, if_neg (by simp)] at h1; cases h1
      rw [h2, if_pos rfl] at h3
      rw [hd', h3 _ rfl]
      rfl)
     have HOF : Hid (∀ W, Calls prog 67 #[.int .i64 (a : Int), .int .i64 (b : Int)] W fun e w' => e = .returned (.tuple #[.complex .f64 (floatOfInt .f64 (a : Int)) (floatOfInt .f64 (b : Int)), .bool true]) ∧ w' = W) := ξ (fun W => (qaf a b W (by omega) (by omega) (by omega)).mono (fun e w' h => ⟨h.1, h.2.symm⟩))
     obtain ⟨vx, hvx⟩ : ∃ v, v = floatOfInt .f64 (a : Int) := ⟨_, rfl⟩
     obtain ⟨vy, hvy⟩ : ∃ v, v = floatOfInt .f64 (b : Int) := ⟨_, rfl⟩
     have HV : Hid (qj (some (a, b)) = .complex .f64 vx vy) := ξ (by rw [hvx, hvy]; rfl)
     rw [← hvx, ← hvy] at HOF
     clear hvx hvy hd'
     have HD9 : Hid (qm (W8.setCell ⟨nb, 0, none⟩ (.complex .f64 vx vy)) nb 10 30 (fun q => qj (d' q))) := ξ ((HD.out.set 0 _).congr fun q _ => by
      rw [← HV.out, HDD.out q]
      split <;> rfl)
     have HJ9 := ξ (XM.out.other HNB.out 0 (.complex .f64 vx vy))
     have sc := HD.out.cell 0 (by omega)
     have sf := HD.out.fz 0
     go_wp2_with fail
     refine (HOF.out _).mono ?_
     rintro e w9 ⟨rfl, hw9⟩
     obtain rfl := hw9
     go_upto_region 7 with fail
     generalize (w9.setCell ⟨nb, 0, none⟩ (.complex .f64 vx vy)) = W9 at HD9 HJ9 ⊢
     obtain ⟨q0, q1, q2, q3, q4, q5, q6, q7, q8, q9⟩ := HD9.out.ten
     obtain ⟨V0, qT⟩ := (HJ9.out).res
     have r_ := qT.rf10
     have za := ξ (qV qT d')
     have qE := ξ ((HJ9.out).put d')
     clear qT
     go_wp2
     refine bodyPost_ret (v := .tuple #[.agg (cH d'), .bool true]) (by simp [results, results37, go_sem, za.out]) rfl ?_
     exact ⟨by rw [vZ.out]; rfl, qE.out.bel⟩)
theorem qkX : Tryz.prog.keyTypeAt 3 73 = true := by kernel_rfl
theorem qag : Tryz.prog.cellsOf 73 = 10 := by kernel_rfl
theorem Xa : Tryz.prog.cellsOf 54 = 4 := by kernel_rfl
theorem qah (x : Nd) (h : x.Fits) : Tryz.prog.keyLits 4 73 x.cells.toList = some x.lits := by
 have hk := wf_i64 h.k; have ha := wf_i64 h.a; have hb := wf_i64 h.b; have hm := wf_i64 h.mn; have hM := wf_i64 h.mx; have hn := wf_i64 h.n
 have h0 := wf_u64 h.s0; have h1 := wf_u64 h.s1; have h2 := wf_u64 h.s2; have h3 := wf_u64 h.s3
 simp [Program.keyLits, underlying73, underlying3, underlying53, underlying54, Nd.cells, qag, qcB, YZ, Xa, hk, ha, hb, hm, hM, hn, h0, h1, h2, h3, show List.range 4 = [0, 1, 2, 3] from rfl, Nd.lits]
theorem Wz (x : Nd) : x.v.formed prog 73 = true := by
 simp [Value.formed, Nd.v, Nd.cells, underlying73, qag]
theorem ZY (x y : Nd) (hx : x.Fits) (hy : y.Fits) (w : World) : (Op.equalIn 10000 73 x.v y.v).run prog w = .ok (decide (x = y)) w := by
 obtain ⟨r, hr, UI⟩ := run_equalIn_deep 9997 3 _ qkX w 4 4 x.v y.v x.lits y.lits (Wz x) (Wz y) (qah x hx) (qah y hy)
 rw [hr]
 congr 1
 rw [Bool.eq_iff_iff, UI, Wf, decide_eq_true_iff]
theorem qn.alloc {w : World} {b o : Nat} {xs : List Nd} (h : qn w b o xs) (ob : Obj) : qn (w.alloc ob) b o xs := h.below (B := w.heap.size) ((Below.refl _ w).alloc (Nat.le_refl _) ob) h.lt
end Go.Proofs.YtjgegohidhdbpaaGreatDoor
