/- The document's own tables: the walk. -/
import Derived.Test.YtjgegohidhdbpaaGreatDoorJMeF
open Go.Proofs.Tryz
set_option linter.unusedVariables false
set_option linter.unusedSimpArgs false
set_option maxRecDepth 100000
set_option maxHeartbeats 40000000
namespace Go.Proofs.YtjgegohidhdbpaaGreatDoor
open Go.RowKit
def qhg (xs : List Nd) : Prop := ∀ (k : Nat) (x : Nd), xs[k]? = some x → x.Fits ∧ ((x.kind = 0 ∨ x.kind = 1 ∨ x.kind = 2 ∨ x.kind = 3) ∨ ((x.kind = 4 ∨ x.kind = 5) ∧ ∃ a c : Nat, x.a = (a : Int) ∧ x.b = (c : Int) ∧ a < k ∧ c < k) ∨ ((x.kind = 6 ∨ x.kind = 7) ∧ ∃ a : Nat, x.a = (a : Int) ∧ a < k))
theorem qiC (b o len cap : Nat) (xs : List Nd) (s : List UInt8) (gb m gcap n : Nat) (RT : Nat → Nat) (RR : Nat → Nat → Nat) (G : Nat → Nat → Nat → Bool) (p i j : Nat) (w : World) (hX : qn w b o xs) (qq : xs.length = len) (UY : len ≤ 1000) (hT : yw w gb m n RT RR G) (kh : i ≤ j) (hj : j ≤ s.length) (hn : n = s.length + 1) (hs : s.length ≤ 1000) (hp : p < len) (x : Nd) (hx : xs[p]? = some x) (hf : x.Fits) (hm : p < m) (hm1 : m ≤ 1000)
  (hk : ((x.kind = 0 ∨ x.kind = 1 ∨ x.kind = 2 ∨ x.kind = 3) ∨ ((x.kind = 4 ∨ x.kind = 5) ∧ ∃ a c : Nat, x.a = (a : Int) ∧ x.b = (c : Int) ∧ a < p ∧ c < p) ∨ ((x.kind = 6 ∨ x.kind = 7) ∧ ∃ a : Nat, x.a = (a : Int) ∧ a < p))) (h6 : x.kind ≠ 6) :
  Calls prog 107 #[.slice (some ⟨b, o, none⟩) len cap, .slice (some ⟨gb, 0, none⟩) m gcap, .int .i64 p, .string ⟨s.toArray⟩, .int .i64 i, .int .i64 j] w fun e w' => e = .returned (.bool (zN s G x i j)) ∧ Below w.heap.size w w' := by
 obtain ⟨kd, w0, w1, w2, w3, xa, xb, mm, M, xn⟩ := x
 simp only at hk h6
 rw [show zN s G ⟨kd, w0, w1, w2, w3, xa, xb, mm, M, xn⟩ i j = Qh s G ⟨kd, w0, w1, w2, w3, xa, xb, mm, M, xn⟩ i j from if_neg h6]
 rcases hk with (rfl | rfl | rfl | rfl) | ⟨rfl | rfl, a, c, rfl, rfl, ha, hc⟩ | ⟨rfl | rfl, a, rfl, ha⟩
 ·exact qiD w0 w1 w2 w3 xa xb mm M xn b o len cap xs s gb m gcap n RT RR G p i j w hX qq UY hT kh hj hn hs hp hx
 ·exact qiE w0 w1 w2 w3 xa xb mm M xn ⟨hf.s0, hf.s1, hf.s2, hf.s3⟩ b o len cap xs s gb m gcap n RT RR G p i j w hX qq UY hT kh hj hn hs hp hx
 ·exact qiF w0 w1 w2 w3 xa xb mm M xn b o len cap xs s gb m gcap n RT RR G p i j w hX qq UY hT kh hj hn hs hp hx
 ·exact qiG w0 w1 w2 w3 xa xb mm M xn b o len cap xs s gb m gcap n RT RR G p i j w hX qq UY hT kh hj hn hs hp hx
 ·exact qiH w0 w1 w2 w3 a c mm M xn b o len cap xs s gb m gcap n RT RR G p i j w hX qq UY hT kh hj hn hs hp hx (by omega) (by omega) hm1
 ·exact qiI w0 w1 w2 w3 a c mm M xn b o len cap xs s gb m gcap n RT RR G p i j w hX qq UY hT kh hj hn hs hp hx (by omega) (by omega) hm1
 ·exact absurd rfl h6
 ·exact qiJ w0 w1 w2 w3 a xb mm M xn b o len cap xs s gb m gcap n RT RR G p i j w hX qq UY hT kh hj hn hs hp hx (by omega) hm1
theorem qc9 (b o len cap : Nat) (xs : List Nd) (s : List UInt8) (w : World) (hX : qn w b o xs) (qq : xs.length = len) (UY : len ≤ 120) (hs : s.length ≤ 90) (hk : qhg xs)
  (hR : ∀ W, Below w.heap.size w W → Calls prog 105 #[.slice (some ⟨b, o, none⟩) len cap] W fun e w' => e = .returned (.bool false) ∧ Below W.heap.size W w') :
  Calls prog 65 #[.slice (some ⟨b, o, none⟩) len cap, .string ⟨s.toArray⟩] w fun e w' => (∃ gv RT RR G, e = .returned gv ∧ w'.ownsRow w.heap.size 144 1 gv len (vz RT (s.length + 1) len) ∧ KG w w' gv len (s.length + 1) w'.heap.size RT RR G ∧ ∀ k x, xs[k]? = some x → ∀ i j, i ≤ j → j ≤ s.length → G k i j = zN s G x i j) ∧ Below w.heap.size w w' := by
 obtain ⟨i0, hi, QX, kF, vv⟩ := info_parts qiK
 obtain ⟨n, hn⟩ : ∃ n, n = s.length + 1 := ⟨_, rfl⟩
 rw [← hn]
 have kR : (⟨s.toArray⟩ : ByteArray).size = s.length := by simp [ByteArray.size]
 obtain ⟨A2, hA2⟩ : ∃ A, A = ((List.range n).map fun _ => Value.slice none 0 0).toArray := ⟨_, rfl⟩
 obtain ⟨A1, hA1⟩ : ∃ A, A = ((List.range n).map (bR fun _ => false)).toArray := ⟨_, rfl⟩
 have hm1 : ∀ W, (Instr.makeSlice 144 (.int .i64 ((s.length : Int) + 1)) (.int .i64 ((s.length : Int) + 1))).run prog W = .ok (.slice (some ⟨W.heap.size, 0, none⟩) n n) (W.alloc (.cells A2 145)) := fun W => by
  have h := qai n (by omega) W
  rw [← hA2] at h
  rw [show ((n : Nat) : Int) = (s.length : Int) + 1 by omega] at h; exact h
 have UZ : ∀ W, (Instr.makeSlice 145 (.int .i64 ((s.length : Int) + 1)) (.int .i64 ((s.length : Int) + 1))).run prog W = .ok (.slice (some ⟨W.heap.size, 0, none⟩) n n) (W.alloc (.cells A1 4)) := fun W => by
  have h := WE n (by omega) W
  rw [← hA1] at h
  rw [show ((n : Nat) : Int) = (s.length : Int) + 1 by omega] at h; exact h
 have HMK := ξ (ζ hm1 UZ)
 have HA := ξ (ζ hA1 hA2)
 have HN := ξ hn
 have HX := ξ (ζ hX (ζ qq hk))
 have HR := ξ hR
 have lb := hX.lt
 have hn91 : n ≤ 91 := by omega
 have GZ : (w.alloc (.cells #[] 144)).ownsRow w.heap.size 144 1 (.slice (some ⟨w.heap.size, 0, none⟩) 0 0) 0 [] := by simpa using World.ownsRow_made w #[] 0 (Nat.le_refl _) (Nat.zero_le _) (by simp)
 have HO0 := ξ (ζ GZ ((Below.refl w.heap.size w).alloc (Nat.le_refl _) (.cells #[] 144)))
 clear hm1 UZ hA1 hA2 hn hX qq hk hR GZ
 go_enter func65, ntmps65
 go_wp2
 go_loopw [5, 6] (fun gvv kv wr => ∃ (k : Nat) (gv : Value) (RT : Nat → Nat) (RR : Nat → Nat → Nat) (G : Nat → Nat → Nat → Bool), gv = gvv ∧ k ≤ len ∧ kv = .int .i64 (k : Int) ∧ wr.ownsRow w.heap.size 144 1 gv k (vz RT n k) ∧ KG w wr gv k n wr.heap.size RT RR G ∧ (∀ k' x, k' < k → xs[k']? = some x → ∀ i j, i ≤ j → j ≤ s.length → G k' i j = zN s G x i j)) (fun _ kv _ => len - (RowKit.intOf kv).toNat)
 case atStart => exact ⟨0, _, fun _ => 0, fun _ _ => 0, fun _ _ _ => false, rfl, Nat.zero_le _, rfl, HO0.out.1, ⟨fun k hk => absurd hk (by omega), fun k hk => absurd hk (by omega), HO0.out.2, Nat.le_refl _⟩, fun k x hk => absurd hk (by omega)⟩
 case round =>
  obtain ⟨k, gv, RT, RR, G, rfl, jl, rfl, zq, hI, hG⟩ := hrel
  by_cases zb : k < len
  ·have hli : (k : Int) < (len : Int) := by omega
   have qp := ξ (HR.out wr hI.bel)
   have HI := ξ (ζ zq (ζ hI hG))
   clear zq hI hG
   go_wp2_with fail
   refine qp.out.mono ?_
   rintro e w3 ⟨rfl, qQ⟩
   have ho3 := vM HI.out.1 qQ
   have Us := HI.out.2.1.below qQ
   have hI4 : KG w w3 gv k n w3.heap.size RT RR G := ⟨Us.grid, fun k hk => ⟨Nat.lt_of_lt_of_le (Us.lo k hk).1 qQ.size, fun c hc => Nat.lt_of_lt_of_le ((Us.lo k hk).2 c hc) qQ.size⟩, Us.bel, Nat.le_refl _⟩
   have l3 := Us.bel.size
   have hP0 : Qi (w3.alloc (.cells A2 145)) w3.heap.size w3.heap.size n n 0 (fun _ => 0) := ⟨by
    rw [HA.out.2]
    exact (qm.new w3 n 145 (fun _ => Value.slice none 0 0)).congr fun i hi => by rw [if_neg (by omega)], fun c h => absurd h (by omega), fun c d h => absurd h (by omega), fun c h => absurd h (by omega), Nat.le_refl _⟩
   have hA3 : Below w3.heap.size w3 (w3.alloc (.cells A2 145)) := (Below.refl _ w3).alloc (Nat.le_refl _) _
   have H3 := ξ (ζ (vM ho3 hA3) (ζ (hI4.below hA3) hP0))
   obtain ⟨bt, K0⟩ : ∃ bt, bt = w3.heap.size := ⟨_, rfl⟩
   have HBT := ξ K0
   clear ho3 Us hI4 hP0 hA3 qQ K0
   have hmk := HMK.out.1
   go_wp2
   rw [← HBT.out]
   rw [← HBT.out] at H3
   go_loopw [8] (fun iv wq => ∃ (i : Nat) (R : Nat → Nat), i ≤ n ∧ iv = .int .i64 (i : Int) ∧ wq.ownsRow w.heap.size 144 1 gv k (vz RT n k) ∧ KG w wq gv k n bt RT RR G ∧ Qi wq bt bt n n i R ∧ bt < wq.heap.size) (fun iv _ => n - (RowKit.intOf iv).toNat)
   case atStart => exact ⟨0, _, Nat.zero_le _, rfl, H3.out.1, H3.out.2.1, H3.out.2.2, H3.out.2.2.top.lt⟩
   case round =>
    obtain ⟨i, R, VJ, rfl, zq, hI2, hP, hbl⟩ := hrel
    by_cases hlt2 : i < n
    ·have hli2 : (i : Int) ≤ (s.length : Int) := by have := HN.out; omega
     have l0 : (i : Int) < (n : Int) := by omega
     have c0 : wr.cell? ⟨bt, i, none⟩ = some (.slice none 0 0) := by rw [hP.top.cell i hlt2, if_neg (by omega)]
     have f0 := hP.top.fz i
     have hP1 := hP.more hlt2 (by omega) A1 HA.out.1
     have hA4 : ∀ o : Obj, Below (wr.setCell ⟨bt, i, none⟩ (zF wr.heap.size n)).heap.size (wr.setCell ⟨bt, i, none⟩ (zF wr.heap.size n)) ((wr.setCell ⟨bt, i, none⟩ (zF wr.heap.size n)).alloc o) := fun o => (Below.refl _ _).alloc (Nat.le_refl _) o
     have hI5 := (hI2.put (r := bt) (p := i) (Nat.le_refl _) (by have := HBT.out; omega) (zF wr.heap.size n)).below (hA4 (.cells A1 4))
     have ho5 := vM (qaj zq hP.top (by decide) i (zF wr.heap.size n)) (hA4 (.cells A1 4))
     have H5 := ξ (ζ ho5 (ζ hI5 hP1))
     have hmk2 := HMK.out.2
     clear zq hI2 hP hP1 hI5 ho5 hA4
     unfold zF at H5
     go_wp2
     go_roundw
     case rel => exact ⟨i + 1, _, by omega, by go_num, H5.out.1, H5.out.2.1, H5.out.2.2, H5.out.2.2.top.lt⟩
     case measure => (simp [RowKit.intOf]) <;> omega
    ·obtain rfl : n = i := by omega
     have hli2 : ¬ (n : Int) ≤ (s.length : Int) := by have := HN.out; omega
     have hbtw : w.heap.size ≤ bt := by have := HBT.out; omega
     have H5 := ξ (ζ zq (ζ hI2 hP))
     have lwr := hI2.bel.size
     clear zq hI2 hP
     go_wp2_with (at_builtin; refine wpList_append_own _ rfl _ _ 67 rfl w.heap.size 144 i0 (.slice none 0 0) 1 24 underlying67 hi QX kF vv rfl (by decide) _ _ _ rfl (H5.out.1.alloc _) ⟨wr.heap.size, 0, none⟩ 1 1 [zF bt n] rfl rfl ?qc2 ?qc3 ?qc4 ?qc5 ?qc6 ?_)
     case qc2 => exact fun j u h => h
     case qc3 => rfl
     case qc4 => (unfold maxLen; omega)
     case qc5 => omega
     case qc6 => first | omega | (simp; omega)
     intro gv1 w4 hown1 zM hnil
     have vU : Below wr.heap.size wr (wr.alloc (.cells #[zF bt n] 144)) := (Below.refl _ wr).alloc (Nat.le_refl _) _
     have ho4 := vM H5.out.1 vU
     have hI6 := H5.out.2.1.below vU
     have qiO : Qs w w4 gv1 k n bt RT RR G R (fun _ _ => false) := ⟨by
      rw [qbd, ku, U0 (RT' := RT) (fun q hq => zL (by omega))]
      exact hown1, ⟨fun q hq => qdu ho4 (hI6.grid q hq) zM, hI6.lo, hI6.bel.grown zM hI6.bel.size (fun q e => (ho4.lt q e).1), Nat.le_trans hI6.le zM.size⟩, (qbe ho4 (H5.out.2.2.below vU) zM).part⟩
     obtain ⟨x, hx⟩ : ∃ x, xs[k]? = some x := ⟨xs[k]'(by have := HX.out.2.1; omega), List.getElem?_eq_getElem _⟩
     have hko := HX.out.2.2 k x hx
     obtain ⟨g, gcap, hgv, ZX, _⟩ := qiO.tabR
     subst hgv
     have JN := ξ (ζ qiO (ζ hx hko))
     clear hown1 zM hnil vU ho4 hI6 qiO hx hko
     go_wp2
     go_loopw [9] (fun jv wq => ∃ (j : Nat) (F : Nat → Nat → Bool), j ≤ n ∧ jv = .int .i64 (j : Int) ∧ Qs w wq (.slice (some ⟨g, 0, none⟩) (k + 1) gcap) k n bt RT RR G R F ∧ ∀ i j', j' < j → i ≤ j' → F i j' = zN s G x i j') (fun jv _ => n - (RowKit.intOf jv).toNat)
     case atStart => exact ⟨0, _, Nat.zero_le _, rfl, JN.out.1, fun i j' h => absurd h (by omega)⟩
     case round =>
      obtain ⟨j, F, hjn, rfl, hC, hF⟩ := hrel
      by_cases qcl : j < n
      ·have hli3 : (j : Int) ≤ (s.length : Int) := by have := HN.out; omega
       have l3n : (j : Int) < (n : Int) := by omega
       obtain ⟨kd, w0, w1, w2, w3, xa, xb, mm, M, xn⟩ := x
       have ki : Below wr.heap.size wr (wr.alloc (.cells #[] 145)) := (Below.refl _ wr).alloc (Nat.le_refl _) _
       have hC5 := hC.below ki
       have JO := HX.out.1.below hC5.old.bel lb
       have d0 : (wr.alloc (.cells #[] 145)).cell? ⟨b, o + k * 10, none⟩ = some (.int .i64 kd) := by have := JO.cell k _ JN.out.2.1 0 _ rfl; rwa [Nat.add_zero] at this
       have d0' : wr.cell? ⟨b, o + k * 10, none⟩ = some (.int .i64 kd) := by have := (HX.out.1.below hC.old.bel lb).cell k _ JN.out.2.1 0 _ rfl; rwa [Nat.add_zero] at this
       have H7 := ξ (ζ hC5 (ζ hF JO))
       clear hC hF ki hC5 JO
       by_cases h6 : kd = 6
       ·obtain ⟨a, rfl, ha⟩ : ∃ a : Nat, xa = (a : Int) ∧ a < k := by
         subst h6
         rcases JN.out.2.2.2 with h | ⟨h, _⟩ | ⟨_, a, h1, h2⟩
         ·simp only at h; omega
         ·simp only at h; omega
         ·exact ⟨a, h1, h2⟩
        subst h6
        have Kp := fun W' (hC : Qs w W' (.slice (some ⟨g, 0, none⟩) (k + 1) gcap) k n bt RT RR G R F) => qak ⟨6, w0, w1, w2, w3, (a : Int), xb, mm, M, xn⟩ (RT a) n j (RR a) (G a) (by omega) qcl JN.out.2.2.1 W' (hC.old.grid a ha)
        unfold Nd.v Nd.cells at Kp
        have VP := ξ Kp
        have hak : (a : Int) < (k : Int) + 1 := by omega
        have lkk : (k : Int) < (k : Int) + 1 := by omega
        clear Kp
        go_wp2
        refine wp_region_noPanic ?_
        refine wp_region_held_drew (S := fun w' => Qs w w' (.slice (some ⟨g, 0, none⟩) (k + 1) gcap) k n bt RT RR G R F ∧ qn w' b o xs) (by kernel_rfl) ?_ (fun qe => ?_)
        ·(try dsimp only); exact ⟨H7.out.1.below (Below.refl _ _).drew, H7.out.2.2.below (Below.refl _ _).drew H7.out.2.2.lt⟩
        refine tq 0 ?_ (hy := by (intro wq2 qi; obtain ⟨sC, sX⟩ := qi; go_simp); (try rfl))
        refine tq 1 ?_ (hy := by (intro wq2 qi; obtain ⟨sC, sX⟩ := qi; go_simp); (try rfl))
        refine tq 2 ?_ (hy := by (intro wq2 qi; obtain ⟨sC, sX⟩ := qi; go_simp); (try rfl))
        refine tq 3 ?_ (hy := by (intro wq2 qi; obtain ⟨sC, sX⟩ := qi; have dd0 : wq2.cell? ⟨b, o + k * 10, none⟩ = some (.int .i64 6) := (by have := sX.cell k _ JN.out.2.1 0 _ rfl; rwa [Nat.add_zero] at this); have dd1 : wq2.cell? ⟨b, o + k * 10 + 1, none⟩ = some (.int .u64 w0) := sX.cell k _ JN.out.2.1 1 _ rfl; have dd2 : wq2.cell? ⟨b, o + k * 10 + 2, none⟩ = some (.int .u64 w1) := sX.cell k _ JN.out.2.1 2 _ rfl; have dd3 : wq2.cell? ⟨b, o + k * 10 + 3, none⟩ = some (.int .u64 w2) := sX.cell k _ JN.out.2.1 3 _ rfl; have dd4 : wq2.cell? ⟨b, o + k * 10 + 4, none⟩ = some (.int .u64 w3) := sX.cell k _ JN.out.2.1 4 _ rfl; have dd5 : wq2.cell? ⟨b, o + k * 10 + 5, none⟩ = some (.int .i64 (a : Int)) := sX.cell k _ JN.out.2.1 5 _ rfl; have dd6 : wq2.cell? ⟨b, o + k * 10 + 6, none⟩ = some (.int .i64 xb) := sX.cell k _ JN.out.2.1 6 _ rfl; have dd7 : wq2.cell? ⟨b, o + k * 10 + 7, none⟩ = some (.int .i64 mm) := sX.cell k _ JN.out.2.1 7 _ rfl; have dd8 : wq2.cell? ⟨b, o + k * 10 + 8, none⟩ = some (.int .i64 M) := sX.cell k _ JN.out.2.1 8 _ rfl; have dd9 : wq2.cell? ⟨b, o + k * 10 + 9, none⟩ = some (.int .i64 xn) := sX.cell k _ JN.out.2.1 9 _ rfl; go_simp); (try rfl))
        refine tq 4 ?_ (hy := by (intro wq2 qi; obtain ⟨sC, sX⟩ := qi; go_simp); (try rfl))
        refine tq 5 ?_ (hy := by (intro wq2 qi; obtain ⟨sC, sX⟩ := qi; go_simp); (try rfl))
        refine tq 6 ?_ (hy := by (intro wq2 qi; obtain ⟨sC, sX⟩ := qi; go_simp); (try rfl))
        refine tq 7 ?_ (hy := by (intro wq2 qi; obtain ⟨sC, sX⟩ := qi; go_simp); (try rfl))
        refine tq 8 ?_ (hy := by (intro wq2 qi; obtain ⟨sC, sX⟩ := qi; go_simp); (try rfl))
        refine tq 9 ?_ (hy := by (intro wq2 qi; obtain ⟨sC, sX⟩ := qi; have dd5 : wq2.cell? ⟨b, o + k * 10 + 5, none⟩ = some (.int .i64 (a : Int)) := sX.cell k _ JN.out.2.1 5 _ rfl; go_simp); (try rfl))
        refine tq 10 ?_ (hy := by (intro wq2 qi; obtain ⟨sC, sX⟩ := qi; go_simp); (try rfl))
        refine tq 11 ?_ (hy := by (intro wq2 qi; obtain ⟨sC, sX⟩ := qi; have tt := (by have := sC.tabS.top a (by omega); rwa [zL (by omega)] at this : wq2.cell? ⟨g, a, none⟩ = some (.slice (some ⟨RT a, 0, none⟩) n n)); go_simp); (try rfl))
        refine tq 12 ?_ (hy := by (intro wq2 qi; obtain ⟨sC, sX⟩ := qi; go_simp); (try rfl))
        refine zU 13 fun K hK => ?_
        go_simp
        have Zo := qe
        obtain ⟨sC, sX⟩ := Zo
        refine (VP.out _ sC).mono ?_
        rintro e w6 ⟨⟨b6, R6, F6, rfl, hG6, ⟨hn6, hm6⟩, hF6⟩, jY⟩
        have hC6 := sC.below jY
        have hX6 := sX.below jY sX.lt
        have hne6 : ∀ i, i < n → b6 ≠ R i ∧ ∀ c, c < j + 3 → R6 c ≠ R i := fun i hi => by
         have h1 := (sC.cur.row i (Nat.zero_le _) hi).lt
         exact ⟨by omega, fun c hc => by have := hm6 c hc; omega⟩
        have H6 := ξ (ζ hC6 (ζ hG6 (ζ hne6 hF6)))
        refine hK.out _ _ ?_ (fun vL => ?_)
        ·(try dsimp only); exact ⟨hC6, hX6⟩
        clear hK K sC sX hn6 hm6 hF6 hG6 hC6 hX6 hne6 jY qe
        (try simp only [Act.put, zm])
        refine tq 14 ?_ (hy := by (intro wq2 qi; obtain ⟨sC, sX⟩ := qi; go_simp); (try rfl))
        refine wpAnyH_done (by kernel_rfl) ?_ _
        refine NoPanic.normal ?_
        go_wp2
        go_loopw [11] (fun iv wq => ∃ (i : Nat) (F2 : Nat → Nat → Bool), i ≤ j + 1 ∧ iv = .int .i64 (i : Int) ∧ Qs w wq (.slice (some ⟨g, 0, none⟩) (k + 1) gcap) k n bt RT RR G R F2 ∧ (∀ i' j', j' < j → i' ≤ j' → F2 i' j' = zN s G ⟨6, w0, w1, w2, w3, (a : Int), xb, mm, M, xn⟩ i' j') ∧ (∀ i', i' < i → F2 i' j = zN s G ⟨6, w0, w1, w2, w3, (a : Int), xb, mm, M, xn⟩ i' j) ∧ yT wq b6 (j + 3) (j + 1) R6 F6) (fun iv _ => j + 1 - (RowKit.intOf iv).toNat)
        case atStart => exact ⟨0, F, Nat.zero_le _, rfl, H6.out.1, H7.out.2.1, fun i' h => absurd h (by omega), H6.out.2.1⟩
        case round =>
         obtain ⟨i, F2, UK, rfl, hC, hF1, Z3, hG6⟩ := hrel
         by_cases qiP : i ≤ j
         ·have qiQ : (i : Int) ≤ (j : Int) := by omega
          have l4n : (i : Int) < (n : Int) := by omega
          have JO := HX.out.1.below hC.old.bel lb
          have d1 : wr.cell? ⟨b, o + k * 10, none⟩ = some (.int .i64 6) := by have := JO.cell k _ JN.out.2.1 0 _ rfl; rwa [Nat.add_zero] at this
          have t0 := hC.tabS.top k (Nat.lt_succ_self k)
          rw [ku] at t0
          have t1 := hC.cur.top.cell i (by omega)
          rw [if_pos (Nat.zero_le _)] at t1
          have t2 := (hC.cur.row i (Nat.zero_le _) (by omega)).cell j qcl
          have f2 := (hC.cur.row i (Nat.zero_le _) (by omega)).fz j
          have t3 := hG6.top.cell 0 (by omega)
          have t4 := (hG6.row 0 (by omega)).cell i (by omega)
          obtain ⟨V, hV⟩ : ∃ V, V = zN s G ⟨6, w0, w1, w2, w3, (a : Int), xb, mm, M, xn⟩ i j := ⟨_, rfl⟩
          have hVF : F6 0 i = V := by
           rw [hV, H6.out.2.2.2 0 i (by omega) qiP]
           unfold zN
           rw [if_pos rfl]
           show Qj (G a) mm M j (j + 2 - 0) 0 i = Qj (G (a : Int).toNat) mm M j (j + 2) 0 i
           rw [Int.toNat_natCast, Nat.sub_zero]
          simp only [bR] at t2 t4
          rw [hVF] at t4
          unfold zF at t1 t3
          have NE : Hid (¬ g = R i ∧ ¬ bt = R i ∧ ¬ b6 = R i ∧ ¬ R6 0 = R i) := ξ ⟨fun e => Q7 hC.own (hC.cur.row i (Nat.zero_le _) (by omega)) (by decide) g (by simp [Value.ownBlock]) e, fun e => (hC.cur.ne i (Nat.zero_le _) (by omega)).1 e.symm, (H6.out.2.2.1 i (by omega)).1, (H6.out.2.2.1 i (by omega)).2 0 (by omega)⟩
          have ZN := ξ (ζ hC (ζ hF1 (ζ Z3 (ζ hV hG6))))
          have l6 : (i : Int) < (j : Int) + 1 := by omega
          have l7 : (0 : Int) < (j : Int) + 3 := by omega
          clear hC hF1 Z3 JO hV hVF hG6 d0 d0'
          go_wp2
          refine wp_region_noPanic ?_
          refine wp_region_held_drew (S := fun w' => w'.cell? ⟨g, k, none⟩ = some (.slice (some ⟨bt, 0, none⟩) n n) ∧ w'.cell? ⟨bt, i, none⟩ = some (.slice (some ⟨R i, 0, none⟩) n n) ∧ w'.cell? ⟨b6, 0, none⟩ = some (.slice (some ⟨R6 0, 0, none⟩) (j + 1) (j + 1)) ∧ w'.cell? ⟨R6 0, i, none⟩ = some (.bool V)) (by kernel_rfl) ?_ (fun qe => ?_)
          ·(try dsimp only); exact ⟨t0, t1, t3, t4⟩
          refine tq 0 ?_ (hy := by (intro wq2 qi; obtain ⟨sa, sb, sc, sd⟩ := qi; go_simp); (try rfl))
          refine tq 1 ?_ (hy := by (intro wq2 qi; obtain ⟨sa, sb, sc, sd⟩ := qi; go_simp); (try rfl))
          refine tq 2 ?_ (hy := by (intro wq2 qi; obtain ⟨sa, sb, sc, sd⟩ := qi; go_simp); (try rfl))
          refine tq 3 ?_ (hy := by (intro wq2 qi; obtain ⟨sa, sb, sc, sd⟩ := qi; go_simp); (try rfl))
          refine tq 4 ?_ (hy := by (intro wq2 qi; obtain ⟨sa, sb, sc, sd⟩ := qi; go_simp); (try rfl))
          refine tq 5 ?_ (hy := by (intro wq2 qi; obtain ⟨sa, sb, sc, sd⟩ := qi; go_simp); (try rfl))
          refine tq 6 ?_ (hy := by (intro wq2 qi; obtain ⟨sa, sb, sc, sd⟩ := qi; go_simp); (try rfl))
          refine tq 7 ?_ (hy := by (intro wq2 qi; obtain ⟨sa, sb, sc, sd⟩ := qi; go_simp); (try rfl))
          refine tq 8 ?_ (hy := by (intro wq2 qi; obtain ⟨sa, sb, sc, sd⟩ := qi; go_simp); (try rfl))
          refine tq 9 ?_ (hy := by (intro wq2 qi; obtain ⟨sa, sb, sc, sd⟩ := qi; go_simp); (try rfl))
          refine tq 10 ?_ (hy := by (intro wq2 qi; obtain ⟨sa, sb, sc, sd⟩ := qi; go_simp); (try rfl))
          refine tq 11 ?_ (hy := by (intro wq2 qi; obtain ⟨sa, sb, sc, sd⟩ := qi; go_simp); (try rfl))
          refine tq 12 ?_ (hy := by (intro wq2 qi; obtain ⟨sa, sb, sc, sd⟩ := qi; go_simp); (try rfl))
          refine tq 13 ?_ (hy := by (intro wq2 qi; obtain ⟨sa, sb, sc, sd⟩ := qi; go_simp); (try rfl))
          refine tq 14 ?_ (hy := by (intro wq2 qi; obtain ⟨sa, sb, sc, sd⟩ := qi; go_simp); (try rfl))
          refine zU 15 fun K hK => ?_
          have s2 : (wr.drew).cell? ⟨R i, j, none⟩ = some (.bool (F2 i j)) := t2
          have sf : (wr.drew).frozen? ⟨R i, j, none⟩ = false := f2
          go_simp
          have Zo := qe
          obtain ⟨sa, sb, sc, sd⟩ := Zo
          refine hK.out _ _ ?_ (fun vL => ?_)
          ·(try dsimp only); exact ⟨(ja NE.out.1 _).trans sa, (ja NE.out.2.1 _).trans sb, (ja NE.out.2.2.1 _).trans sc, (ja NE.out.2.2.2 _).trans sd⟩
          clear hK K sa sb sc sd qe vL
          (try simp only [Act.put, zm])
          refine wpAnyH_done (by kernel_rfl) ?_ _
          refine NoPanic.normal ?_
          have HC9 := ξ ((ZN.out.1.below (Below.refl _ wr).drew).put i j (by omega) hbtw V)
          have HG9 := ξ ((ZN.out.2.2.2.2.below (Below.refl _ wr).drew).other (r := R i) (p := j) (H6.out.2.2.1 i (by omega)).1 (H6.out.2.2.1 i (by omega)).2 (.bool V))
          go_wp2
          go_roundw
          case rel => exact ⟨i + 1, _, by omega, by go_num, HC9.out, fun i' j' h1 h2 => by
           show (if i' = i ∧ j' = j then V else F2 i' j') = _
           rw [if_neg (by omega)]; exact ZN.out.2.1 i' j' h1 h2, fun i' h => by
           show (if i' = i ∧ j = j then V else F2 i' j) = _
           by_cases e : i' = i
           ·subst e; rw [if_pos ⟨rfl, rfl⟩]; exact ZN.out.2.2.2.1
           ·rw [if_neg (by omega)]; exact ZN.out.2.2.1 i' (by omega), HG9.out⟩
          case measure => (simp [RowKit.intOf]) <;> omega
         ·obtain rfl : i = j + 1 := by omega
          have qiQ : ¬ ((j + 1 : Nat) : Int) ≤ (j : Int) := by omega
          have ZN := ξ (ζ hC (ζ hF1 Z3))
          clear hC hF1 Z3 hG6 d0 d0'
          go_wp2
          go_roundw
          case rel => exact ⟨j + 1, F2, by omega, by go_num, ZN.out.1, fun i' j' h1 h2 => by
           by_cases e : j' = j
           ·subst e; exact ZN.out.2.2 i' (by omega)
           ·exact ZN.out.2.1 i' j' (by omega) h2⟩
          case measure => (simp [RowKit.intOf]) <;> omega
       ·have q6 : (kd == 6) = false := by rw [beq_eq_false_iff_ne]; exact h6
        go_wp2
        go_loopw [11] (fun iv wq => ∃ (i : Nat) (F2 : Nat → Nat → Bool), i ≤ j + 1 ∧ iv = .int .i64 (i : Int) ∧ Qs w wq (.slice (some ⟨g, 0, none⟩) (k + 1) gcap) k n bt RT RR G R F2 ∧ (∀ i' j', j' < j → i' ≤ j' → F2 i' j' = zN s G ⟨kd, w0, w1, w2, w3, xa, xb, mm, M, xn⟩ i' j') ∧ ∀ i', i' < i → F2 i' j = zN s G ⟨kd, w0, w1, w2, w3, xa, xb, mm, M, xn⟩ i' j) (fun iv _ => j + 1 - (RowKit.intOf iv).toNat)
        case atStart => exact ⟨0, F, Nat.zero_le _, rfl, H7.out.1, H7.out.2.1, fun i' h => absurd h (by omega)⟩
        case round =>
         obtain ⟨i, F2, UK, rfl, hC, hF1, Z3⟩ := hrel
         by_cases qiP : i ≤ j
         ·have qiQ : (i : Int) ≤ (j : Int) := by omega
          have l4n : (i : Int) < (n : Int) := by omega
          have lkk : (k : Int) < (k : Int) + 1 := by omega
          have JO := HX.out.1.below hC.old.bel lb
          have d1 : wr.cell? ⟨b, o + k * 10, none⟩ = some (.int .i64 kd) := by have := JO.cell k _ JN.out.2.1 0 _ rfl; rwa [Nat.add_zero] at this
          have hT := hC.tabS
          have t0 := hT.top k (Nat.lt_succ_self k)
          rw [ku] at t0
          have t1 := hC.cur.top.cell i (by omega)
          rw [if_pos (Nat.zero_le _)] at t1
          have t2 := (hC.cur.row i (Nat.zero_le _) (by omega)).cell j qcl
          have f2 := (hC.cur.row i (Nat.zero_le _) (by omega)).fz j
          obtain ⟨V, hV⟩ : ∃ V, V = zN s G ⟨kd, w0, w1, w2, w3, xa, xb, mm, M, xn⟩ i j := ⟨_, rfl⟩
          have HPT : Hid (∀ W', Below wr.heap.size wr W' → Calls prog 107 #[.slice (some ⟨b, o, none⟩) len cap, .slice (some ⟨g, 0, none⟩) (k + 1) gcap, .int .i64 k, .string ⟨s.toArray⟩, .int .i64 i, .int .i64 j] W' fun e w' => e = .returned (.bool V) ∧ Below W'.heap.size W' w') := ξ (fun W' hB => by
           have := qiC b o len cap xs s g (k + 1) gcap n _ _ _ k i j W' (JO.below hB JO.lt) HX.out.2.1 (by omega) (hT.below hB) qiP (by have := HN.out; omega) HN.out (by omega) zb _ JN.out.2.1 JN.out.2.2.1 (Nat.lt_succ_self k) (by omega) JN.out.2.2.2 h6
           rw [KI JN.out.2.2.2, ← hV] at this
           exact this)
          have ZN := ξ (ζ hC (ζ hF1 (ζ Z3 hV)))
          simp only [bR] at t2
          unfold zF at t1
          clear hC hF1 Z3 JO hT hV d0 d0'
          have QH : Hid (∀ w5, Below (wr.drew).heap.size (wr.drew) w5 → (w5.cell? ⟨g, k, none⟩ = some (.slice (some ⟨bt, 0, none⟩) n n) ∧ w5.cell? ⟨bt, i, none⟩ = some (.slice (some ⟨R i, 0, none⟩) n n) ∧ w5.cell? ⟨R i, j, none⟩ = some (.bool (F2 i j)) ∧ w5.frozen? ⟨R i, j, none⟩ = false)) := ξ (fun w5 hB => by
           have hB' : Below wr.heap.size wr w5 := (Below.refl _ wr).drew.trans hB
           have hC := ZN.out.1.below hB'
           have t0 := hC.tabS.top k (Nat.lt_succ_self k)
           rw [ku] at t0
           have t1 := hC.cur.top.cell i (by omega)
           rw [if_pos (Nat.zero_le _)] at t1
           exact ⟨t0, t1, (hC.cur.row i (Nat.zero_le _) (by omega)).cell j qcl, (hC.cur.row i (Nat.zero_le _) (by omega)).fz j⟩)
          have HD := ξ ((Below.refl wr.heap.size wr).drew)
          go_wp2
          go_region_with (go_at_call 107; refine (HPT.out _ HD.out).mono ?_; rintro e w5 ⟨rfl, ki⟩; obtain ⟨p0, p1, p2, p3⟩ := QH.out w5 ki)
          all_goals (
           have hC9 := (ZN.out.1.below ((Below.refl _ wr).drew.trans ki)).put i j (by omega) hbtw V
           have HC9 := ξ hC9
           clear hC9
           go_wp2
           go_roundw
           case rel => exact ⟨i + 1, _, by omega, by go_num, HC9.out, fun i' j' h1 h2 => by
            show (if i' = i ∧ j' = j then V else F2 i' j') = _
            rw [if_neg (by omega)]; exact ZN.out.2.1 i' j' h1 h2, fun i' h => by
            show (if i' = i ∧ j = j then V else F2 i' j) = _
            by_cases e : i' = i
            ·subst e; rw [if_pos ⟨rfl, rfl⟩]; exact ZN.out.2.2.2
            ·rw [if_neg (by omega)]; exact ZN.out.2.2.1 i' (by omega)⟩
           case measure => (simp [RowKit.intOf]) <;> omega)
         ·obtain rfl : i = j + 1 := by omega
          have qiQ : ¬ ((j + 1 : Nat) : Int) ≤ (j : Int) := by omega
          have ZN := ξ (ζ hC (ζ hF1 Z3))
          clear hC hF1 Z3 d0 d0'
          go_wp2
          go_roundw
          case rel => exact ⟨j + 1, F2, by omega, by go_num, ZN.out.1, fun i' j' h1 h2 => by
           by_cases e : j' = j
           ·subst e; exact ZN.out.2.2 i' (by omega)
           ·exact ZN.out.2.1 i' j' (by omega) h2⟩
          case measure => (simp [RowKit.intOf]) <;> omega
      ·obtain rfl : n = j := by omega
       have hli3 : ¬ (n : Int) ≤ (s.length : Int) := by have := HN.out; omega
       have H6 := ξ (ζ hC hF)
       clear hC hF
       go_wp2
       go_roundw
       case rel => exact ⟨k + 1, _, _, _, _, rfl, by omega, by go_num, H6.out.1.own, H6.out.1.tabs, fun k' x' hk' hx' i j kh hj => by
        have hko' := (HX.out.2.2 k' x' hx').2
        by_cases e : k' = k
        ·subst e
         obtain rfl : x' = x := Option.some.inj (hx'.symm.trans JN.out.2.1)
         rw [ku, KI hko']
         exact H6.out.2 i j (by have := HN.out; omega) kh
        ·rw [zL e, KI (by
          rcases hko' with h | ⟨h, a, c, h1, h2, h3, h4⟩ | ⟨h, a, h1, h2⟩
          ·exact .inl h
          ·exact .inr (.inl ⟨h, a, c, h1, h2, by omega, by omega⟩)
          ·exact .inr (.inr ⟨h, a, h1, by omega⟩))]
         exact HI.out.2.2 k' x' (by omega) hx' i j kh hj⟩
       case measure => (simp [RowKit.intOf]) <;> omega
  ·obtain rfl : k = len := by omega
   have hli : ¬ (k : Int) < (k : Int) := by omega
   have H := ξ (ζ zq (ζ hI hG))
   clear zq hI hG
   go_wp2
   go_ret
   exact ⟨⟨_, rfl, RT, H.out.1, RR, G, H.out.2.1, fun k x hx => H.out.2.2 k x (by have := (List.getElem?_eq_some_iff.1 hx).1; have := HX.out.2.1; omega) hx⟩, H.out.2.1.bel⟩
open Go.Lib
theorem KJ {a a' : Nat → Nat → Bool} {m M : Int} {j : Nat} (h : ∀ p k, p ≤ k → k ≤ j → a p k = a' p k) : ∀ (f c p : Nat), p ≤ j → Qj a m M j f c p = Qj a' m M j f c p
 | 0, c, p, hp => by rw [Qj, Qj, h j j (Nat.le_refl _) (Nat.le_refl _)]
 | f + 1, c, p, hp => by
  rw [Qj, Qj]
  by_cases e : p = j
  ·rw [if_pos e, if_pos e, h j j (Nat.le_refl _) (Nat.le_refl _)]
  ·rw [if_neg e, if_neg e]
   congr 1
   rw [Bool.eq_iff_iff, qF, qF]
   constructor
   ·rintro ⟨k, h1, h2, h3⟩
    exact ⟨k, h1, h2, by rw [h p k (by omega) h2, KJ h f (c + 1) k h2] at h3; exact h3⟩
   ·rintro ⟨k, h1, h2, h3⟩
    exact ⟨k, h1, h2, by rw [h p k (by omega) h2, KJ h f (c + 1) k h2]; exact h3⟩
theorem yx (s : List UInt8) (xs : List Nd) (G : Nat → Nat → Nat → Bool) (hG : ∀ (k : Nat) (x : Nd), xs[k]? = some x → ∀ i j, i ≤ j → j ≤ s.length → G k i j = zN s G x i j) :
  ∀ (t : T) (o : Nat), Wy t → VM t → t.refs = 0 → t.Ok → T.At (fun i => xs[i]?) t o → ∀ i j, i ≤ j → j ≤ s.length → G (o + t.size - 1) i j = (qd s t).ends i 0 (fun _ => none) j
 | .leaf x, o, hm, hx, hr, Qt, ha, i, j, kh, hj => by
  have hxo : xs[o]? = some x := ha
  show G (o + 1 - 1) i j = (if x.kind = -1 then decide (i ≤ j) && decide (j ≤ s.length) else match zE s x i (fun _ => none) with | some w => decide (j = i + w) | none => false)
  have h8 : x.kind ≠ 8 := fun e => by simp only [T.refs, e, if_true] at hr; omega
  rw [show o + 1 - 1 = o by omega, hG o x hxo i j kh hj]
  rcases Qt.2 with h | h | h | h | h
  ·simp only [zN, Qh, zE, h]
   simp
   try omega
  ·simp only [zN, Qh, zE, h]
   simp
   cases s[i]? with
   | none => simp
   | some c => cases hs : x.set c.toNat <;> simp [hs]
  ·simp only [zN, Qh, zE, h]
   simp
   by_cases e : i = 0
   ·subst e; simp
   ·simp [e]; omega
  ·simp only [zN, Qh, zE, h]
   simp
   by_cases e : i = s.length
   ·subst e; simp; omega
   ·simp [e]
  ·exact absurd h h8
 | .two k a b, o, hm, hx, hr, Qt, ha, i, j, kh, hj => by
  have VO : a.refs = 0 := by simp only [T.refs] at hr; omega
  have hrb : b.refs = 0 := by simp only [T.refs] at hr; omega
  have ia := yx s xs G hG a o hm.1 hx.1 VO Qt.2.1 ha.1
  have ib := yx s xs G hG b (o + a.size) hm.2 hx.2 hrb Qt.2.2 ha.2.1
  have fa := vG s a hm.1 hx.1 VO
  have fb := vG s b hm.2 hx.2 hrb
  have ft := vG s (.two k a b) hm hx hr
  have GY := a.size_pos
  have hpb := b.size_pos
  have vJ := ha.2.2
  show G (o + (a.size + b.size + 1) - 1) i j = _
  rw [show o + (a.size + b.size + 1) - 1 = o + a.size + b.size by omega, hG _ _ vJ i j kh hj]
  refine Eq.trans ?_ (ft i j (fun _ => none) qo.none kh hj).1
  have e1 : (T.root (.two k a b) o).a.toNat = o + a.size - 1 := by show ((o : Int) + a.size - 1).toNat = _; omega
  have e2 : (T.root (.two k a b) o).b.toNat = o + a.size + b.size - 1 := by show ((o : Int) + a.size + b.size - 1).toNat = _; omega
  have ek : (T.root (.two k a b) o).kind = k := rfl
  rcases Qt.1 with rfl | rfl
  ·have : zN s G (T.root (.two 4 a b) o) i j = zZ i j (fun k => G (o + a.size - 1) i k && G (o + a.size + b.size - 1) k j) := by
    unfold zN Qh
    rw [ek, e1, e2]
    simp
   rw [this]
   unfold zh
   rw [if_pos rfl]
   symm
   refine KL j fun q k1 k2 => ?_
   have h3 : (zh s a i q (fun _ => none)).isSome = (qd s a).ends i 0 (fun _ => none) q ∧ ∀ d, zh s a i q (fun _ => none) = some d → qo s.length d := fa i q (fun _ => none) qo.none k1 (by omega)
   rw [ia i q k1 (by omega), ib q j k2 hj]
   cases hq : zh s a i q (fun _ => none) with
   | none => rw [hq] at h3; rw [← h3.1]; rfl
   | some d =>
    rw [hq] at h3
    rw [← h3.1]
    have : (zh s b q j d).isSome = (qd s b).ends q 0 (fun _ => none) j := (fb q j d (h3.2 d rfl) k2 hj).1
    show (zh s b q j d).isSome = (true && _)
    rw [this, Bool.true_and]
  ·have : zN s G (T.root (.two 5 a b) o) i j = (G (o + a.size - 1) i j || G (o + a.size + b.size - 1) i j) := by
    unfold zN Qh
    rw [ek, e1, e2]
    simp
   rw [this, ia i j kh hj, ib i j kh hj]
   unfold zh
   rw [if_neg (by decide)]
   have h3 : (zh s a i j (fun _ => none)).isSome = (qd s a).ends i 0 (fun _ => none) j := (fa i j (fun _ => none) qo.none kh hj).1
   have h4 : (zh s b i j (fun _ => none)).isSome = (qd s b).ends i 0 (fun _ => none) j := (fb i j (fun _ => none) qo.none kh hj).1
   rw [← h3, ← h4]
   cases zh s a i j (fun _ => none) <;> simp
 | .times m M t, o, hm, hx, hr, Qt, ha, i, j, kh, hj => by
  have hrt : t.refs = 0 := hr
  have it := yx s xs G hG t o hm.2 hx.2 hrt Qt.2 ha.1
  have ft0 := vG s t hm.2 hx.2 hrt
  have ft := vG s (.times m M t) hm hx hr
  have hp := t.size_pos
  show G (o + (t.size + 1) - 1) i j = _
  rw [show o + (t.size + 1) - 1 = o + t.size by omega, hG _ _ ha.2 i j kh hj]
  refine Eq.trans ?_ (ft i j (fun _ => none) qo.none kh hj).1
  have e1 : (T.root (.times m M t) o).a.toNat = o + t.size - 1 := by show ((o : Int) + t.size - 1).toNat = _; omega
  have : zN s G (T.root (.times m M t) o) i j = Qj (G (o + t.size - 1)) m M j (j + 2) 0 i := by
   unfold zN
   rw [if_pos (show (T.root (.times m M t) o).kind = 6 from rfl), e1]
   rfl
  rw [this, KJ (a' := fun i j => (qd s t).ends i 0 (fun _ => none) j) (fun p k h1 h2 => it p k h1 (by omega)) (j + 2) 0 i kh]
  unfold zh
  exact qdw ft0 hj (j + 2) (j - i) i 0 (fun _ => none) qo.none kh (by omega) (by omega)
 | .group n t, o, hm, hx, hr, Qt, ha, i, j, kh, hj => by
  have hrt : t.refs = 0 := hr
  have it := yx s xs G hG t o hm.2 hx hrt Qt.2 ha.1
  have hp := t.size_pos
  show G (o + (t.size + 1) - 1) i j = (qd s t).ends i 0 (fun _ => none) j
  rw [show o + (t.size + 1) - 1 = o + t.size by omega, hG _ _ ha.2 i j kh hj, ← it i j kh hj]
  have e1 : (T.root (.group n t) o).a.toNat = o + t.size - 1 := by show ((o : Int) + t.size - 1).toNat = _; omega
  unfold zN Qh
  rw [e1]
  rfl
end Go.Proofs.YtjgegohidhdbpaaGreatDoor
