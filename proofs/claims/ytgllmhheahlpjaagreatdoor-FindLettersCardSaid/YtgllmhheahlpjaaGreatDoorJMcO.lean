/- A trial: both. -/
import Derived.Test.YtgllmhheahlpjaaGreatDoorJMcN
set_option linter.unusedVariables false
set_option linter.unusedSimpArgs false
set_option maxRecDepth 100000
set_option maxHeartbeats 40000000
namespace Go.Proofs.YtgllmhheahlpjaaGreatDoor
open Go.RowKit Go.Maps Go.WideMaps
def msd (p r : Int) : Nat := if r < p then 0 else (r - p).toNat + 1
theorem msd_lt {p r r' : Int} (h : p ≤ r) (h2 : r' < r) : msd p r' < msd p r := by
 unfold msd
 rw [show (if r < p then 0 else (r - p).toNat + 1) = (r - p).toNat + 1 from if_neg (by omega)]
 split <;> omega
theorem great_at {p j k : Nat} {f : Nat → Bool} (h1 : p ≤ k) (h2 : k ≤ j) (h : f k = true) (hn : ∀ i, k < i → i ≤ j → f i = false) : greatest p f j = some k := by
 cases hg : greatest p f j with
 | none =>
  have := greatest_none hg k h1 h2
  rw [h] at this; cases this
 | some k' =>
  obtain ⟨a, b, c⟩ := greatest_some hg
  rcases Nat.lt_trichotomy k k' with q | q | q
  ·have := hn k' q b; rw [c] at this; cases this
  ·rw [q]
  ·exfalso
   have hlt : ∀ (b : Nat), greatest p f b = some k' → k ≤ b → k' < k → False := fun b => by
    induction b with
    | zero => intro _ h3 h4; omega
    | succ b ih =>
     intro h3 h4 h5
     unfold greatest at h3
     split at h3
     ·cases h3; omega
     ·rename_i hno
      rcases Nat.lt_or_ge b k with r | r
      ·obtain rfl : k = b + 1 := by omega
       exact hno ⟨h1, h⟩
      ·exact ih h3 r h5
   exact hlt j hg h2 q
theorem great_no {p j : Nat} {f : Nat → Bool} (hn : ∀ i, p ≤ i → i ≤ j → f i = false) : greatest p f j = none := by
 cases hg : greatest p f j with
 | none => rfl
 | some k =>
  obtain ⟨a, b, c⟩ := greatest_some hg
  have := hn k a b; rw [c] at this; cases this
section
variable {X : Nat} {v : TrV} {s : List UInt8} {xs : List Nd} {B : Nat} {c1 : Lit → Nat} {n1 : Nat} {P1 : Lit → Prop} {c2 : Lit → Nat} {n2 : Nat} {M2 : Nat → Prop} {J : (Nat → Prop) → List Lit → World → Prop}
theorem both_c (jx : JX X v s xs B c1 n1 P1 c2 n2 M2 J) (fx : Fx v s xs B P1) (p j pa pb : Nat) (ta tb : T) (hp : p ≤ j) (hj : j ≤ s.length) (la : pa < v.n) (lb : pb < v.n) (ha0 : CntOk ta 0) (hb0 : CntOk tb 0) (hSA : SOk s.length (semT s ta)) (hSB : SOk s.length (semT s tb))
  (hA : EndsC X v s B M2 J pa ta p) (hBe : ∀ k, p ≤ k → k ≤ j → EndsC X v s B M2 J pb tb k)
  (hLv : ∀ (had : Cp) (E : Nat → Prop) (es : List Lit) (w : World), CapOk s.length had → J E es w → (∀ b, E b → b < w.heap.size) → Calls Tryz.prog 150 #[.pointer (some ⟨X, 0, none⟩), .int .i64 pa, .int .i64 pb, .int .i64 p, capV had] w fun e w' => ∃ (K : FuncId) (cap : Array Value), e = .returned (.func (.func K) #[] cap) ∧ (∀ S, Keeps S w w') ∧ ∀ k, p ≤ k → k ≤ s.length → LeftC v M2 J K cap k (leftS (semT s ta) (semT s tb).asked p had k) E es w')
  (hLa : ∀ k, p ≤ k → k ≤ j → LeaveC X v s M2 J pa ta p k) (hLb : ∀ k, p ≤ k → k ≤ j → LeaveC X v s M2 J pb tb k j) : BothC X v s M2 J pa pb ta tb p j := by
 intro had E es w hcap hJ hE
 have hsl := fx.sl
 have hn2 := fx.n2
 have hB0 := fx.B1
 have iv := jx.iv hJ
 obtain ⟨lX, llb, lrb, lbn, lbr, lbl, lw⟩ := iv.lts
 have HM2 := Lib.hid (fun b hb => (jx.lt hJ b hb).1)
 have hk3 : ∀ S, Keeps S w (((w.alloc (.cells (nA 4 0 0 0 0 (pa : Int) (pb : Int) 0 0 0) 60)).alloc (.cells (cH had) 27)).alloc (.cells cZ 27)) := fun S => (((Keeps.refl S w).alloc _).alloc _).alloc _
 have hb3 : Blk (((w.alloc (.cells (nA 4 0 0 0 0 (pa : Int) (pb : Int) 0 0 0) 60)).alloc (.cells (cH had) 27)).alloc (.cells cZ 27)) (w.heap.size + 1) (cH had) 27 := by
  have := (Blk.new (w.alloc (.cells (nA 4 0 0 0 0 (pa : Int) (pb : Int) 0 0 0) 60)) (cH had) 27).alloc (.cells cZ 27)
  rw [World.size_alloc] at this
  exact this
 have hn3 := ((Blk.new w (nA 4 0 0 0 0 (pa : Int) (pb : Int) 0 0 0) 60).alloc (.cells (cH had) 27)).alloc (.cells cZ 27)
 have hr3 : VRow (((w.alloc (.cells (nA 4 0 0 0 0 (pa : Int) (pb : Int) 0 0 0) 60)).alloc (.cells (cH had) 27)).alloc (.cells cZ 27)) (w.heap.size + 2) 10 27 (fun _ => .complex .f64 0 0) := by
  have := VRow.new ((w.alloc (.cells (nA 4 0 0 0 0 (pa : Int) (pb : Int) 0 0 0) 60)).alloc (.cells (cH had) 27)) 10 27 (fun _ => .complex .f64 0 0)
  rw [World.size_alloc, World.size_alloc] at this
  exact this
 have hs3 : (((w.alloc (.cells (nA 4 0 0 0 0 (pa : Int) (pb : Int) 0 0 0) 60)).alloc (.cells (cH had) 27)).alloc (.cells cZ 27)).heap.size = w.heap.size + 3 := by simp
 obtain ⟨k0, k1, k2, k3, k4, k5, k6, k7, k8, k9⟩ := capBlk.ten (w := (((w.alloc (.cells (nA 4 0 0 0 0 (pa : Int) (pb : Int) 0 0 0) 60)).alloc (.cells (cH had) 27)).alloc (.cells cZ 27))) (b := w.heap.size + 1) (had := had) hb3
 have hJ3 : J (fun b => E b ∨ (w.heap.size ≤ b ∧ b < w.heap.size + 3)) es (((w.alloc (.cells (nA 4 0 0 0 0 (pa : Int) (pb : Int) 0 0 0) 60)).alloc (.cells (cH had) 27)).alloc (.cells cZ 27)) := jx.mono (jx.keeps (jx.fresh hJ) (hk3 _)) (fun b hb => hb.imp id (fun e => e.1))
 have hE3 : ∀ b, (E b ∨ (w.heap.size ≤ b ∧ b < w.heap.size + 3)) → b < (((w.alloc (.cells (nA 4 0 0 0 0 (pa : Int) (pb : Int) 0 0 0) 60)).alloc (.cells (cH had) 27)).alloc (.cells cZ 27)).heap.size := fun b hb => by
  rw [hs3]
  rcases hb with hb | hb
  ·have := hE b hb; omega
  ·omega
 have hno : ∀ b, w.heap.size ≤ b → ¬ (Mt v b ∨ M2 b) := fun b hb e => by
  rcases e with e | e
  ·rcases e with e | e | e <;> omega
  ·have := HM2.out b e; omega
 have hcall := hLv had _ es _ hcap hJ3 hE3
 unfold capV at hcall
 have HCALL := Lib.hid hcall
 have HX := Lib.hid jx
 have HCAP := Lib.hid hcap
 have HK3 := Lib.hid hk3
 have HB3 := Lib.hid (And.intro hb3 (And.intro hr3 hn3))
 have HJ3 := Lib.hid (And.intro hJ3 hE3)
 have HNO := Lib.hid hno
 have HA := Lib.hid hA
 have HBE := Lib.hid hBe
 have HLA := Lib.hid hLa
 have HLB := Lib.hid hLb
 have HSA := Lib.hid (And.intro hSA hSB)
 clear hcall hk3 hb3 hr3 hn3 hJ hJ3 hE hE3 hcap hno hs3 iv jx hA hBe hLv hLa hLb hSA hSB
 unfold capV ndV
 go_enter Tryz.func132, Tryz.ntmps132
 go_wp2_with fail
 refine HCALL.out.mono ?_
 rintro e w4 ⟨K, cap, rfl, hk4, hLC⟩
 have hb4 := HB3.out.1.keeps (hk4 (fun _ => False)) id
 have hn4 := HB3.out.2.2.keeps (hk4 (fun _ => False)) id
 have hr4 : VRow w4 (w.heap.size + 2) 10 27 (fun _ => .complex .f64 0 0) := ⟨((hk4 (fun _ => False)).block _ HB3.out.2.1.lt id).trans HB3.out.2.1.heap⟩
 have m5 : w4.cell? ⟨w.heap.size, 5, none⟩ = some (.int .i64 (pa : Int)) := hn4.cell 5
 have l4 : w.heap.size + 3 ≤ w4.heap.size := by have := (hk4 (fun _ => False)).size; simp at this; omega
 clear k0 k1 k2 k3 k4 k5 k6 k7 k8 k9 HCALL
 obtain ⟨k0, k1, k2, k3, k4, k5, k6, k7, k8, k9⟩ := capBlk.ten (w := w4) (b := w.heap.size + 1) (had := had) hb4
 have hJ4 := HX.out.keeps HJ3.out.1 (hk4 _)
 have hE4 : ∀ b, (E b ∨ (w.heap.size ≤ b ∧ b < w.heap.size + 3)) → b < w4.heap.size := fun b hb => Nat.lt_of_lt_of_le (HJ3.out.2 b hb) (hk4 (fun _ => False)).size
 have hcall := HA.out 0 had _ es w4 (by omega) ha0 HCAP.out hJ4 hE4
 unfold capV PV at hcall
 have HCALL := Lib.hid hcall
 have H4 := Lib.hid (And.intro hb4 (And.intro hn4 (And.intro hr4 (And.intro hE4 (fun S => (HK3.out S).trans (hk4 S))))))
 have HLC := Lib.hid hLC
 clear hcall hb4 hn4 hr4 hJ4 hE4 hk4 hLC
 go_wp2_with fail
 refine HCALL.out.mono ?_
 rintro e w5 ⟨b, fs, rfl, hrow5, hbE, hb00, hbM2, hbM, hpre5, hJ5, hk5⟩
 have HUP := Lib.hid (fun (q : Nat) (hq : q ≤ s.length) (W : World) (h : PRow W b (s.length / 64 + 1) (fun j => (semT s ta).ends p 0 had j)) => upto_m b (s.length / 64 + 1) (s.length / 64 + 1) q _ (by omega) (by omega) W h)
 have hup := HUP.out j hj w5 hrow5
 have HUP0 := Lib.hid hup
 have l5 : w.heap.size + 3 ≤ w5.heap.size := by have := hk5.size; omega
 have H5 := Lib.hid (And.intro hrow5 (And.intro hJ5 (And.intro hk5 hpre5)))
 have HBM : Hid (¬ (Mt v b ∨ M2 b)) := Lib.hid (fun e => e.elim hbM hbM2)
 clear hup hrow5 hJ5 hk5 hpre5 hbM hbM2 hbE m5 k0 k1 k2 k3 k4 k5 k6 k7 k8 k9 HCALL
 go_wp2_with fail
 refine HUP0.out.mono ?_
 rintro e w6 ⟨⟨r, rfl, hr⟩, rfl⟩
 have HR := Lib.hid hr
 clear hr HUP0
 go_wp2
 go_loopw [13] (fun kv wr => ∃ (r : Int) (q : Int) (gs : List Lit), kv = .int .i64 r ∧ q ≤ j ∧ IsTo (fun j => (semT s ta).ends p 0 had j) q r ∧ (∀ k : Nat, q < (k : Int) → k ≤ j → catK (semT s ta) (semT s tb) p j had k = false) ∧ fs <+: gs ∧ J (fun b => E b ∨ (w.heap.size ≤ b ∧ b < w.heap.size + 3)) gs wr ∧ Keeps (fun b => Mt v b ∨ M2 b) w6 wr) (fun kv _ => msd p (RowKit.intOf kv))
 case atStart => exact ⟨r, j, fs, rfl, Int.le_refl _, HR.out, fun k h1 h2 => by omega, List.prefix_refl _, H5.out.2.1, Keeps.refl _ _⟩
 case round =>
  obtain ⟨r2, q, gs, rfl, hqj, hr2, hno2, hpre, hJr, hK⟩ := hrel
  have hsz := hK.size
  have hkr : Keeps (fun b => Mt v b ∨ M2 b) w4 wr := H5.out.2.2.1.trans hK
  have br := H4.out.1.keeps hkr (HNO.out _ (by omega))
  have nr := H4.out.2.1.keeps hkr (HNO.out _ (by omega))
  have rr : VRow wr (w.heap.size + 2) 10 27 (fun _ => .complex .f64 0 0) := ⟨(hkr.block _ H4.out.2.2.1.lt (HNO.out _ (by omega))).trans H4.out.2.2.1.heap⟩
  have hrowr : PRow wr b (s.length / 64 + 1) (fun j => (semT s ta).ends p 0 had j) := H5.out.1.keeps hK HBM.out
  have hEr : ∀ b, (E b ∨ (w.heap.size ≤ b ∧ b < w.heap.size + 3)) → b < wr.heap.size := fun b hb => by
   have := H4.out.2.2.2.1 b hb
   have := hkr.size
   omega
  have lr : w.heap.size + 3 ≤ wr.heap.size := by omega
  have hpr := H5.out.2.2.2.trans hpre
  have hkall := (H4.out.2.2.2.2 _).trans hkr
  by_cases hrp : (p : Int) ≤ r2
  ·rcases hr2 with ⟨rfl, _⟩ | ⟨k, rfl, hk1, hk2, hk3⟩
   ·omega
   have hkp : p ≤ k := by omega
   have hkj : k ≤ j := by omega
   have hm3 : wr.cell? ⟨w.heap.size, 6, none⟩ = some (.int .i64 (pb : Int)) := nr.cell 6
   obtain ⟨hent, hleft⟩ := HLC.out k hkp (by omega)
   have hent2 : (callFunc K (#[.int .i64 (k : Int)] ++ cap)).run Tryz.prog wr = .ok (.enter K (#[.int .i64 (k : Int)] ++ cap)) wr := hent wr
   have hl1 := hleft gs wr.drew hpr (HX.out.keeps hJr (Keeps.refl _ wr).drew) (hkr.drew.mono (fun i _ e => .inl e))
   obtain ⟨hd2, hhd2⟩ : ∃ d, d = leftS (semT s ta) (semT s tb).asked p had k := ⟨_, rfl⟩
   rw [← hhd2] at hl1
   have hcd : CapOk s.length hd2 := by rw [hhd2]; exact HSA.out.1.left_cap HCAP.out hkp (by omega)
   have hcat : catK (semT s ta) (semT s tb) p j had k = (semT s tb).ends k 0 hd2 j := by
    show ((semT s ta).ends p 0 had k && _) = _
    rw [show (semT s ta).ends p 0 had k = true from hk2, Bool.true_and, hhd2]
   have HL1 := Lib.hid hl1
   have HENT := Lib.hid hent
   have HR2 := Lib.hid (And.intro br (And.intro nr (And.intro rr (And.intro hrowr (And.intro hEr (And.intro hpr hkall))))))
   have HQ := Lib.hid (And.intro hno2 (And.intro hk2 (And.intro hk3 (And.intro hcd (And.intro hcat (And.intro hK hpre))))))
   clear hl1 hent hleft br nr rr hrowr hEr hpr hkall hno2 hk2 hk3 hcd hcat hhd2 hkr hsz hK hpre
   go_wp2_with fail
   refine wp_region_noPanic ?_
   refine wp_region_held_drew (S := fun w' => w'.cell? ⟨w.heap.size, 6, none⟩ = some (.int .i64 (pb : Int)) ∧ ∃ gs2 : List Lit, gs <+: gs2 ∧ J (fun b => E b ∨ (w.heap.size ≤ b ∧ b < w.heap.size + 3)) gs2 w' ∧ Keeps (fun b => Mt v b ∨ M2 b) wr w') (by kernel_rfl) ?_ (fun hHeld => ?_)
   ·(try dsimp only); exact ⟨hm3, gs, List.prefix_refl _, HX.out.keeps hJr (Keeps.refl _ wr).drew, (Keeps.refl _ wr).drew⟩
   refine tk (i := 0) (v := ?_) rfl ?_ ?_; rotate_left
   ·(intro wq hSw; (try dsimp only at hSw); (try obtain ⟨cc, _⟩ := hSw); go_simp); (try with_reducible rfl)
   (try simp only [Act.put, tkS])
   refine tk (i := 1) (v := ?_) rfl ?_ ?_; rotate_left
   ·(intro wq hSw; (try dsimp only at hSw); (try obtain ⟨cc, _⟩ := hSw); go_simp); (try with_reducible rfl)
   (try simp only [Act.put, tkS])
   refine tk (i := 2) (v := ?_) rfl ?_ ?_; rotate_left
   ·(intro wq hSw; (try dsimp only at hSw); (try obtain ⟨cc, _⟩ := hSw); go_simp); (try with_reducible rfl)
   (try simp only [Act.put, tkS])
   refine tk (i := 3) (v := ?_) rfl ?_ ?_; rotate_left
   ·(intro wq hSw; (try dsimp only at hSw); (try obtain ⟨cc, _⟩ := hSw); go_simp); (try with_reducible rfl)
   (try simp only [Act.put, tkS])
   refine tk (i := 4) (v := ?_) rfl ?_ ?_; rotate_left
   ·(intro wq hSw; (try dsimp only at hSw); (try obtain ⟨cc, _⟩ := hSw); go_simp); (try with_reducible rfl)
   (try simp only [Act.put, tkS])
   refine tk (i := 5) (v := ?_) rfl ?_ ?_; rotate_left
   ·(intro wq hSw; (try dsimp only at hSw); (try obtain ⟨cc, _⟩ := hSw); go_simp); (try with_reducible rfl)
   (try simp only [Act.put, tkS])
   refine tk (i := 8) (v := ?_) rfl ?_ ?_; rotate_left
   ·(intro wq hSw; (try dsimp only at hSw); (try obtain ⟨cc, _⟩ := hSw); go_simp); (try with_reducible rfl)
   (try simp only [Act.put, tkS])
   have hent3 := HENT.out
   refine wpAnyH_ready (rs := [6]) (by kernel_rfl) (by simp) ?_
   refine AllReadyH.cons rfl (fun K hK => ?_) ?_
   rotate_left
   ·exact AllReadyH.nil
   go_simp
   refine HL1.out.mono ?_
   rintro e wN ⟨g2, rfl, hpre2, hJ2, hkN⟩
   have nrN := HR2.out.2.1.drew.keeps hkN (HNO.out _ (by omega))
   have hkrN : Keeps (fun b => Mt v b ∨ M2 b) wr wN := (Keeps.refl _ wr).drew.trans hkN
   have HN := Lib.hid (And.intro hpre2 (And.intro hJ2 hkrN))
   clear hpre2 hJ2 hkN hkrN
   refine hK.out _ _ ?_ (fun hHeld => ?_)
   ·(try dsimp only); exact ⟨nrN.cell 6, g2, HN.out⟩
   clear hK K nrN
   (try simp only [Act.put, tkS])
   refine wpAnyH_ready (rs := [7]) (by kernel_rfl) (by simp) ?_
   refine AllReadyH.cons rfl (fun K hK => ?_) ?_
   rotate_left
   ·exact AllReadyH.nil
   go_simp
   have hcall := HBE.out k hkp hkj 0 hd2 _ g2 wN (by omega) hb0 HQ.out.2.2.2.1 HN.out.2.1 (fun b hb => Nat.lt_of_lt_of_le (HR2.out.2.2.2.2.1 b hb) HN.out.2.2.size)
   unfold capV PV at hcall
   refine hcall.mono ?_
   rintro e wM ⟨b2, g3, rfl, hrow2, _, _, _, _, hpre3, hJ3, hkM⟩
   have hkrM := HN.out.2.2.trans hkM
   have nrM := HR2.out.2.1.keeps hkrM (HNO.out _ (by omega))
   have HM := Lib.hid (And.intro (HN.out.1.trans hpre3) (And.intro hJ3 hkrM))
   have HHAS := Lib.hid (has_m b2 (s.length / 64 + 1) (s.length / 64 + 1) j _ (by omega) (by omega) wM hrow2)
   clear hcall hrow2 hpre3 hJ3 hkM hkrM
   refine hK.out _ _ ?_ (fun hHeld => ?_)
   ·(try dsimp only); exact ⟨nrM.cell 6, g3, HM.out⟩
   clear hK K nrM
   (try simp only [Act.put, tkS])
   refine wpAnyH_ready (rs := [9]) (by kernel_rfl) (by simp) ?_
   refine AllReadyH.cons rfl (fun K hK => ?_) ?_
   rotate_left
   ·exact AllReadyH.nil
   go_simp
   refine HHAS.out.mono ?_
   rintro e wL ⟨rfl, rfl⟩
   refine hK.out _ _ ?_ (fun hHeld => ?_)
   ·(try dsimp only); exact hHeld
   clear hK K HHAS hHeld
   (try simp only [Act.put, tkS])
   refine wpAnyH_done (by kernel_rfl) ?_ _
   refine NoPanic.normal ?_
   have br := HR2.out.1.keeps HM.out.2.2 (HNO.out _ (by omega))
   have nr := HR2.out.2.1.keeps HM.out.2.2 (HNO.out _ (by omega))
   have rr : VRow wL (w.heap.size + 2) 10 27 (fun _ => .complex .f64 0 0) := ⟨(HM.out.2.2.block _ HR2.out.2.2.1.lt (HNO.out _ (by omega))).trans HR2.out.2.2.1.heap⟩
   have hrowL : PRow wL b (s.length / 64 + 1) (fun j => (semT s ta).ends p 0 had j) := HR2.out.2.2.2.1.keeps HM.out.2.2 HBM.out
   have HRR := Lib.hid (And.intro br (And.intro nr (And.intro rr hrowL)))
   have lL : w.heap.size + 3 ≤ wL.heap.size := by have := HM.out.2.2.size; omega
   clear br nr rr hrowL hm3 hent3 HL1 HENT
   cases hq : (semT s tb).ends k 0 hd2 j with
   | false =>
    have HUPK : Hid (Calls Tryz.prog 52 #[.slice (some ⟨b, 0, none⟩) (s.length / 64 + 1) (s.length / 64 + 1), .int .i64 ((k : Int) - 1)] wL fun e w' => (∃ r, e = .returned (.int .i64 r) ∧ IsTo (fun j => (semT s ta).ends p 0 had j) ((k : Int) - 1) r) ∧ w' = wL) := by
     refine Lib.hid ?_
     rcases Nat.eq_zero_or_pos k with h0 | h0
     ·subst h0
      refine (upto_neg _ _ (by omega) wL).mono ?_
      rintro e w' ⟨rfl, rfl⟩
      exact ⟨⟨-1, rfl, .inl ⟨rfl, fun i hi => by omega⟩⟩, rfl⟩
     ·have := HUP.out (k - 1) (by omega) wL HRR.out.2.2.2
      rw [show ((k - 1 : Nat) : Int) = (k : Int) - 1 by omega] at this
      exact this
    have hck : catK (semT s ta) (semT s tb) p j had k = false := by rw [HQ.out.2.2.2.2.1]; exact hq
    have HCK := Lib.hid hck
    clear hck hq
    go_wp2_with fail
    refine HUPK.out.mono ?_
    rintro e wK ⟨⟨r3, rfl, hr3⟩, rfl⟩
    have HR3 := Lib.hid hr3
    have hr4 : r3 < (k : Int) := by
     rcases hr3 with ⟨e, _⟩ | ⟨k', e, h, _⟩
     ·omega
     ·omega
    clear hr3 HUPK
    go_wp2
    go_roundw
    case rel =>
     refine ⟨r3, (k : Int) - 1, g3, rfl, by omega, HR3.out, fun i h1 h2 => ?_, HQ.out.2.2.2.2.2.2.trans HM.out.1, HM.out.2.1, HQ.out.2.2.2.2.2.1.trans HM.out.2.2⟩
     rcases (by omega : i = k ∨ k < i) with q1 | q1
     ·subst q1; exact HCK.out
     ·rcases (by omega : (i : Int) ≤ q ∨ q < i) with q2 | q2
      ·show ((semT s ta).ends p 0 had i && _) = false
       rw [show (semT s ta).ends p 0 had i = false from HQ.out.2.2.1 i q1 q2]; rfl
      ·exact HQ.out.1 i q2 h2
    case measure => exact msd_lt (by show (p : Int) ≤ (k : Int); omega) hr4
   | true =>
    have hck : catK (semT s ta) (semT s tb) p j had k = true := by rw [HQ.out.2.2.2.2.1]; exact hq
    have hg : greatest p (catK (semT s ta) (semT s tb) p j had) j = some k := great_at hkp hkj hck (fun i h1 h2 => by
     rcases (by omega : (i : Int) ≤ q ∨ q < i) with q2 | q2
     ·show ((semT s ta).ends p 0 had i && _) = false
      rw [show (semT s ta).ends p 0 had i = false from HQ.out.2.2.1 i h1 q2]; rfl
     ·exact HQ.out.1 i q2 h2)
    obtain ⟨Z1, hZ1⟩ : ∃ Z, Z = (semT s ta).leave p k had := ⟨_, rfl⟩
    obtain ⟨Z, hZ⟩ : ∃ Z, Z = (semT s tb).leave k j Z1 := ⟨_, rfl⟩
    have hz1 : CapOk s.length Z1 := by rw [hZ1]; exact HSA.out.1.leave_cap HCAP.out hkp (by omega)
    have hw : (semT s (.two 4 ta tb)).walk p j had = Z := by
     show (match greatest p (catK (semT s ta) (semT s tb) p j had) j with | some k => (semT s tb).leave k j ((semT s ta).leave p k had) | none => had) = Z
     rw [hg, hZ, hZ1]
    have hc1 := HLA.out k hkp hkj had _ g3 wL.drew HCAP.out (HX.out.keeps HM.out.2.1 (Keeps.refl _ wL).drew) (fun b hb => Nat.lt_of_lt_of_le (HR2.out.2.2.2.2.1 b hb) HM.out.2.2.size)
    rw [← hZ1] at hc1
    unfold capV at hc1
    have HC1 := Lib.hid hc1
    have HZ := Lib.hid (And.intro hw (And.intro hZ hz1))
    clear hck hg hZ1 hZ hw hz1 hc1 hq
    go_wp2_with fail
    refine wp_region_noPanic ?_
    refine wp_region_held_drew (S := fun w' => Blk w' w.heap.size (nA 4 0 0 0 0 (pa : Int) (pb : Int) 0 0 0) 60 ∧ Blk w' (w.heap.size + 1) (cH had) 27) (by kernel_rfl) ?_ (fun hHeld => ?_)
    ·(try dsimp only); exact ⟨HRR.out.2.1.drew, HRR.out.1.drew⟩
    refine tk (i := 0) (v := ?_) rfl ?_ ?_; rotate_left
    ·(intro wq hSw; obtain ⟨sn, sc⟩ := hSw; have n5 : wq.cell? ⟨w.heap.size, 5, none⟩ = some (.int .i64 (pa : Int)) := sn.cell 5; have n6 : wq.cell? ⟨w.heap.size, 6, none⟩ = some (.int .i64 (pb : Int)) := sn.cell 6; obtain ⟨e0, e1, e2, e3, e4, e5, e6, e7, e8, e9⟩ := capBlk.ten (w := wq) (b := w.heap.size + 1) (had := had) sc; go_simp); (try with_reducible rfl)
    (try simp only [Act.put, tkS])
    refine tk (i := 1) (v := ?_) rfl ?_ ?_; rotate_left
    ·(intro wq hSw; obtain ⟨sn, sc⟩ := hSw; have n5 : wq.cell? ⟨w.heap.size, 5, none⟩ = some (.int .i64 (pa : Int)) := sn.cell 5; have n6 : wq.cell? ⟨w.heap.size, 6, none⟩ = some (.int .i64 (pb : Int)) := sn.cell 6; obtain ⟨e0, e1, e2, e3, e4, e5, e6, e7, e8, e9⟩ := capBlk.ten (w := wq) (b := w.heap.size + 1) (had := had) sc; go_simp); (try with_reducible rfl)
    (try simp only [Act.put, tkS])
    refine tk (i := 2) (v := ?_) rfl ?_ ?_; rotate_left
    ·(intro wq hSw; obtain ⟨sn, sc⟩ := hSw; have n5 : wq.cell? ⟨w.heap.size, 5, none⟩ = some (.int .i64 (pa : Int)) := sn.cell 5; have n6 : wq.cell? ⟨w.heap.size, 6, none⟩ = some (.int .i64 (pb : Int)) := sn.cell 6; obtain ⟨e0, e1, e2, e3, e4, e5, e6, e7, e8, e9⟩ := capBlk.ten (w := wq) (b := w.heap.size + 1) (had := had) sc; go_simp); (try with_reducible rfl)
    (try simp only [Act.put, tkS])
    refine tk (i := 3) (v := ?_) rfl ?_ ?_; rotate_left
    ·(intro wq hSw; obtain ⟨sn, sc⟩ := hSw; have n5 : wq.cell? ⟨w.heap.size, 5, none⟩ = some (.int .i64 (pa : Int)) := sn.cell 5; have n6 : wq.cell? ⟨w.heap.size, 6, none⟩ = some (.int .i64 (pb : Int)) := sn.cell 6; obtain ⟨e0, e1, e2, e3, e4, e5, e6, e7, e8, e9⟩ := capBlk.ten (w := wq) (b := w.heap.size + 1) (had := had) sc; go_simp); (try with_reducible rfl)
    (try simp only [Act.put, tkS])
    refine tk (i := 4) (v := ?_) rfl ?_ ?_; rotate_left
    ·(intro wq hSw; obtain ⟨sn, sc⟩ := hSw; have n5 : wq.cell? ⟨w.heap.size, 5, none⟩ = some (.int .i64 (pa : Int)) := sn.cell 5; have n6 : wq.cell? ⟨w.heap.size, 6, none⟩ = some (.int .i64 (pb : Int)) := sn.cell 6; obtain ⟨e0, e1, e2, e3, e4, e5, e6, e7, e8, e9⟩ := capBlk.ten (w := wq) (b := w.heap.size + 1) (had := had) sc; go_simp); (try with_reducible rfl)
    (try simp only [Act.put, tkS])
    refine tk (i := 5) (v := ?_) rfl ?_ ?_; rotate_left
    ·(intro wq hSw; obtain ⟨sn, sc⟩ := hSw; have n5 : wq.cell? ⟨w.heap.size, 5, none⟩ = some (.int .i64 (pa : Int)) := sn.cell 5; have n6 : wq.cell? ⟨w.heap.size, 6, none⟩ = some (.int .i64 (pb : Int)) := sn.cell 6; obtain ⟨e0, e1, e2, e3, e4, e5, e6, e7, e8, e9⟩ := capBlk.ten (w := wq) (b := w.heap.size + 1) (had := had) sc; go_simp); (try with_reducible rfl)
    (try simp only [Act.put, tkS])
    refine tk (i := 6) (v := ?_) rfl ?_ ?_; rotate_left
    ·(intro wq hSw; obtain ⟨sn, sc⟩ := hSw; have n5 : wq.cell? ⟨w.heap.size, 5, none⟩ = some (.int .i64 (pa : Int)) := sn.cell 5; have n6 : wq.cell? ⟨w.heap.size, 6, none⟩ = some (.int .i64 (pb : Int)) := sn.cell 6; obtain ⟨e0, e1, e2, e3, e4, e5, e6, e7, e8, e9⟩ := capBlk.ten (w := wq) (b := w.heap.size + 1) (had := had) sc; go_simp); (try with_reducible rfl)
    (try simp only [Act.put, tkS])
    refine tk (i := 7) (v := ?_) rfl ?_ ?_; rotate_left
    ·(intro wq hSw; obtain ⟨sn, sc⟩ := hSw; have n5 : wq.cell? ⟨w.heap.size, 5, none⟩ = some (.int .i64 (pa : Int)) := sn.cell 5; have n6 : wq.cell? ⟨w.heap.size, 6, none⟩ = some (.int .i64 (pb : Int)) := sn.cell 6; obtain ⟨e0, e1, e2, e3, e4, e5, e6, e7, e8, e9⟩ := capBlk.ten (w := wq) (b := w.heap.size + 1) (had := had) sc; go_simp); (try with_reducible rfl)
    (try simp only [Act.put, tkS])
    refine tk (i := 8) (v := ?_) rfl ?_ ?_; rotate_left
    ·(intro wq hSw; obtain ⟨sn, sc⟩ := hSw; have n5 : wq.cell? ⟨w.heap.size, 5, none⟩ = some (.int .i64 (pa : Int)) := sn.cell 5; have n6 : wq.cell? ⟨w.heap.size, 6, none⟩ = some (.int .i64 (pb : Int)) := sn.cell 6; obtain ⟨e0, e1, e2, e3, e4, e5, e6, e7, e8, e9⟩ := capBlk.ten (w := wq) (b := w.heap.size + 1) (had := had) sc; go_simp); (try with_reducible rfl)
    (try simp only [Act.put, tkS])
    refine tk (i := 9) (v := ?_) rfl ?_ ?_; rotate_left
    ·(intro wq hSw; obtain ⟨sn, sc⟩ := hSw; have n5 : wq.cell? ⟨w.heap.size, 5, none⟩ = some (.int .i64 (pa : Int)) := sn.cell 5; have n6 : wq.cell? ⟨w.heap.size, 6, none⟩ = some (.int .i64 (pb : Int)) := sn.cell 6; obtain ⟨e0, e1, e2, e3, e4, e5, e6, e7, e8, e9⟩ := capBlk.ten (w := wq) (b := w.heap.size + 1) (had := had) sc; go_simp); (try with_reducible rfl)
    (try simp only [Act.put, tkS])
    refine tk (i := 10) (v := ?_) rfl ?_ ?_; rotate_left
    ·(intro wq hSw; obtain ⟨sn, sc⟩ := hSw; have n5 : wq.cell? ⟨w.heap.size, 5, none⟩ = some (.int .i64 (pa : Int)) := sn.cell 5; have n6 : wq.cell? ⟨w.heap.size, 6, none⟩ = some (.int .i64 (pb : Int)) := sn.cell 6; obtain ⟨e0, e1, e2, e3, e4, e5, e6, e7, e8, e9⟩ := capBlk.ten (w := wq) (b := w.heap.size + 1) (had := had) sc; go_simp); (try with_reducible rfl)
    (try simp only [Act.put, tkS])
    refine wpAnyH_ready (rs := [11]) (by kernel_rfl) (by simp) ?_
    refine AllReadyH.cons rfl (fun K hK => ?_) ?_
    rotate_left
    ·exact AllReadyH.nil
    go_simp
    refine HC1.out.mono ?_
    rintro e wP ⟨g4, rfl, hpre4, hJ4, hkP⟩
    have hkrP : Keeps (fun b => Mt v b ∨ M2 b) wr wP := (HM.out.2.2.drew).trans hkP
    have HP := Lib.hid (And.intro (HM.out.1.trans hpre4) (And.intro hJ4 hkrP))
    clear hpre4 hJ4 hkP hkrP
    refine hK.out _ _ ?_ (fun hHeld => ?_)
    ·(try dsimp only); exact ⟨HR2.out.2.1.keeps HP.out.2.2 (HNO.out _ (by omega)), HR2.out.1.keeps HP.out.2.2 (HNO.out _ (by omega))⟩
    clear hK K
    (try simp only [Act.put, tkS])
    refine wpAnyH_ready (rs := [12]) (by kernel_rfl) (by simp) ?_
    refine AllReadyH.cons rfl (fun K hK => ?_) ?_
    rotate_left
    ·exact AllReadyH.nil
    go_simp
    have hc2 := HLB.out k hkp hkj Z1 _ g4 wP HZ.out.2.2 HP.out.2.1 (fun b hb => Nat.lt_of_lt_of_le (HR2.out.2.2.2.2.1 b hb) HP.out.2.2.size)
    rw [← HZ.out.2.1] at hc2
    unfold capV at hc2
    refine hc2.mono ?_
    rintro e wR ⟨g5, rfl, hpre5, hJ5, hkR⟩
    have hkrR := HP.out.2.2.trans hkR
    have hrR : VRow wR (w.heap.size + 2) 10 27 (fun _ => .complex .f64 0 0) := ⟨(hkrR.block _ HR2.out.2.2.1.lt (HNO.out _ (by omega))).trans HR2.out.2.2.1.heap⟩
    have HRX := Lib.hid (And.intro (HP.out.1.trans hpre5) (And.intro hJ5 hkrR))
    have lR : w.heap.size + 3 ≤ wR.heap.size := by have := hkrR.size; omega
    clear hc2 hpre5 hJ5 hkR hkrR
    refine hK.out _ _ ?_ (fun hHeld => ?_)
    ·(try dsimp only); exact ⟨HR2.out.2.1.keeps HRX.out.2.2 (HNO.out _ (by omega)), HR2.out.1.keeps HRX.out.2.2 (HNO.out _ (by omega))⟩
    clear hK K
    (try simp only [Act.put, tkS])
    obtain ⟨r0, r1, r2, r3, r4, r5, r6, r7, r8, r9, f0, f1, f2, f3, f4, f5, f6, f7, f8, f9⟩ := hrR.rf10
    obtain ⟨s0, s1, s2, s3, s4, s5, s6, s7, s8, s9⟩ := st10 (w := wR) (b := w.heap.size + 2) hrR Z
    have HKS := Lib.hid (kp10 (w := wR) (b := w.heap.size + 2) Z)
    have HSS := Lib.hid (And.intro s0 (And.intro s1 (And.intro s2 (And.intro s3 (And.intro s4 (And.intro s5 (And.intro s6 (And.intro s7 (And.intro s8 s9)))))))))
    clear hrR s0 s1 s2 s3 s4 s5 s6 s7 s8 s9
    refine wpAnyH_ready (rs := [13]) (by kernel_rfl) (by simp) ?_
    refine AllReadyH.cons rfl (fun K hK => ?_) ?_
    rotate_left
    ·exact AllReadyH.nil
    have HKS2 := HKS.out
    go_simp
    refine hK.out _ _ ?_ (fun hHeld => ?_)
    ·(try dsimp only); exact ⟨(HR2.out.2.1.keeps HRX.out.2.2 (HNO.out _ (by omega))).keeps HKS2 (by omega), (HR2.out.1.keeps HRX.out.2.2 (HNO.out _ (by omega))).keeps HKS2 (by omega)⟩
    clear hK K hHeld HKS2
    (try simp only [Act.put, tkS])
    refine wpAnyH_done (by kernel_rfl) ?_ _
    refine NoPanic.normal ?_
    go_wp2
    obtain ⟨s0, s1, s2, s3, s4, s5, s6, s7, s8, s9⟩ := HSS.out
    refine bodyPost_ret (v := .agg (cH Z)) (by simp [results, Tryz.results132, go_sem, s0, s1, s2, s3, s4, s5, s6, s7, s8, s9]) rfl ⟨g5, ?_, HR2.out.2.2.2.2.2.1.trans HRX.out.1, HX.out.mono (HX.out.keeps HRX.out.2.1 (HKS.out.mono (fun i _ e => .inr (by subst e; omega)))) (fun b hb => .inl hb), (HR2.out.2.2.2.2.2.2.trans HRX.out.2.2).trans2 HKS.out (fun i hi e => by omega)⟩
    show Ending.returned (capV Z) = _
    rw [HZ.out.1]
    rfl
  ·have hg : greatest p (catK (semT s ta) (semT s tb) p j had) j = none := great_no (fun i h1 h2 => by
    rcases (by omega : (i : Int) ≤ q ∨ q < i) with q2 | q2
    ·show ((semT s ta).ends p 0 had i && _) = false
     have : (semT s ta).ends p 0 had i = false := by
      rcases hr2 with ⟨_, hz⟩ | ⟨k, hk0, _, _, hk3⟩
      ·exact hz i q2
      ·exact hk3 i (by omega) q2
     rw [this]; rfl
    ·exact hno2 i q2 h2)
   have hw : (semT s (.two 4 ta tb)).walk p j had = had := by
    show (match greatest p (catK (semT s ta) (semT s tb) p j had) j with | some k => (semT s tb).leave k j ((semT s ta).leave p k had) | none => had) = had
    rw [hg]
   obtain ⟨k0, k1, k2, k3, k4, k5, k6, k7, k8, k9⟩ := capBlk.ten (w := wr) (b := w.heap.size + 1) (had := had) br
   have HZ := Lib.hid hw
   have HALL := Lib.hid (And.intro hpr (And.intro hJr hkall))
   clear hw hg hno2 hr2 hpr hJr hkall hK hkr hpre hrowr hEr br nr
   obtain ⟨r0, r1, r2, r3, r4, r5, r6, r7, r8, r9, f0, f1, f2, f3, f4, f5, f6, f7, f8, f9⟩ := rr.rf10
   obtain ⟨s0, s1, s2, s3, s4, s5, s6, s7, s8, s9⟩ := st10 (w := wr) (b := w.heap.size + 2) rr had
   have HKS := Lib.hid (kp10 (w := wr) (b := w.heap.size + 2) had)
   have HSS := Lib.hid (And.intro s0 (And.intro s1 (And.intro s2 (And.intro s3 (And.intro s4 (And.intro s5 (And.intro s6 (And.intro s7 (And.intro s8 s9)))))))))
   clear rr s0 s1 s2 s3 s4 s5 s6 s7 s8 s9
   go_wp2
   obtain ⟨s0, s1, s2, s3, s4, s5, s6, s7, s8, s9⟩ := HSS.out
   refine bodyPost_ret (v := .agg (cH had)) (by simp [results, Tryz.results132, go_sem, s0, s1, s2, s3, s4, s5, s6, s7, s8, s9]) rfl ⟨?_, gs, HALL.out.1, HX.out.mono (HX.out.keeps HALL.out.2.1 (HKS.out.mono (fun i _ e => .inr (by subst e; omega)))) (fun b hb => .inl hb), HALL.out.2.2.trans2 HKS.out (fun i hi e => by omega)⟩
   show Ending.returned (capV had) = Ending.returned (capV ((semT s (.two 4 ta tb)).walk p j had))
   rw [HZ.out]
end
end Go.Proofs.YtgllmhheahlpjaaGreatDoor
