/- The document's own way to fit, walked. -/
import Derived.Test.YtjgegohidhdbpaaGreatDoorJMeK
import Derived.Test.YtjgegohidhdbpaaGreatDoorJMdQ
open Go.Proofs.Tryz
set_option linter.unusedVariables false
set_option linter.unusedSimpArgs false
set_option maxRecDepth 100000
set_option maxHeartbeats 40000000
namespace Go.Proofs.YtjgegohidhdbpaaGreatDoor
open Go.RowKit
theorem jX (Z : FZ) (hZ : Z.Ok) (p : Nat) (kd : Int) (w0 w1 w2 w3 : Nat) (xa xb mm M xn : Int) (hx : Z.xs[p]? = some ⟨kd, w0, w1, w2, w3, xa, xb, mm, M, xn⟩) (f : Nat → Nat → Cp → Option Cp) (ht : qba Z p f) (hs : kd = 0 ∨ kd = 2 ∨ kd = 3 ∨ kd = 4 ∨ kd = 5 ∨ kd = 7) (hk : qf1 Z p ⟨kd, w0, w1, w2, w3, xa, xb, mm, M, xn⟩ f) : qf3 Z p f := by
 intro i j c w hW qB kh hj
 have VW := ξ hs
 clear hs
 have kR : (⟨Z.s.toArray⟩ : ByteArray).size = Z.s.length := by simp [ByteArray.size]
 obtain ⟨ans, QG⟩ : ∃ a, a = f i j c := ⟨_, rfl⟩
 rw [← QG]
 obtain ⟨nt, Vz⟩ : ∃ nt : Bool, nt = (decide (0 < Z.gl) && !Z.G p i j) := ⟨_, rfl⟩
 have kz : nt = true → ans = none := fun e => by
  rw [Vz, Bool.and_eq_true, Bool.not_eq_true'] at e
  have h1 := ht.tab (of_decide_eq_true e.1) i j c qB kh hj
  rw [e.2, ← QG] at h1
  cases ans with
  | none => rfl
  | some d => cases h1
 have hpi : (p : Int) < (Z.len : Int) := by have := ht.lt; omega
 have zj : Below w.heap.size w ((w.alloc (.cells (cH c) 30)).alloc (.cells cZ 30)) := (Xc.new w c).bel
 have ZA := ξ (Xc.new w c)
 have HW2 := ξ (hW.below zj)
 have KZ := ξ Vz
 have kD := ξ kz
 have vZ := ξ QG
 have HK := ξ hk
 have HX := ξ hx
 have HT := ξ ht
 have HZ := ξ hZ
 have HC := ξ (ζ qB (ζ kh hj))
 have h90 := hZ.s90
 have Kx := hZ.l
 clear Vz kz QG hk hx ht hZ qB hW zj
 unfold qk
 go_enter func66, ntmps66
 go_upto_region 1 with fail
 obtain ⟨W2, Vy⟩ : ∃ W2, W2 = ((w.alloc (.cells (cH c) 30)).alloc (.cells cZ 30)) := ⟨_, rfl⟩
 rw [← Vy] at ZA HW2 ⊢
 clear Vy
 go_cut [42] (fun v wx => v = .bool nt ∧ wx = W2)
 case first =>
  rcases HW2.out.tabs with h0 | ⟨h1, hT⟩
  ·obtain rfl : false = nt := by rw [KZ.out, h0]; rfl
   have l0 : ¬ (0 : Int) < (Z.gl : Int) := by omega
   clear h0
   go_wp2_with fail
   go_meet
   exact ⟨rfl, rfl⟩
  ·have u0 := hT.top p HT.out.lt
   have u1 := (hT.grid p HT.out.lt).top.cell i (by have := HZ.out.n1; omega)
   have u2 := ((hT.grid p HT.out.lt).row i (by have := HZ.out.n1; omega)).cell j (by have := HZ.out.n1; omega)
   have l0 : (0 : Int) < (Z.gl : Int) := by omega
   have l1 : (p : Int) < (Z.gl : Int) := by omega
   have li : (i : Int) < (Z.n : Int) := by have := HZ.out.n1; omega
   have lj : (j : Int) < (Z.n : Int) := by have := HZ.out.n1; omega
   obtain ⟨V, hV⟩ : ∃ V, V = Z.G p i j := ⟨_, rfl⟩
   simp only [bR] at u2
   unfold zF at u1
   rw [← hV] at u2
   have HV : Hid (nt = !V) := ξ (by rw [KZ.out, decide_eq_true (by omega), hV]; rfl)
   clear hV hT h1
   go_wp2_with fail
   go_meet
   exact ⟨by rw [HV.out], rfl⟩
 case rest =>
  obtain ⟨rfl, hwc⟩ := hcut
  subst hwc
  obtain ⟨qB, kh, hj⟩ := HC.out
  cases nt with
  | true =>
   have Gi := ξ (kD.out rfl)
   obtain ⟨V0, qT⟩ := ZA.out.res
   have r_ := qT.rf10
   have za := ξ (qV qT c)
   have HB := ξ (ZA.out.bel.trans ((kn (w := wc) (b := w.heap.size + 1) c).below (by have := ZA.out.size; omega) (fun i e => by subst e; exact Nat.le_succ _)))
   clear qT
   have k_ := ZA.out.had.ten
   go_wp2
   refine bodyPost_ret (v := .tuple #[.agg (cH c), .bool false]) (by simp [results, results66, go_sem, za.out]) rfl ?_
   exact zY HB.out Gi.out
  | false =>
   have dd := HW2.out.nodes.cell p _ HX.out
   have g_ := zB dd
   have HS2 := ξ ZA.out.size
   have kM := ξ (ZA.out.node ⟨kd, w0, w1, w2, w3, xa, xb, mm, M, xn⟩)
   have Xd := ξ (HW2.out.below ((Below.refl _ _).alloc (Nat.le_refl _) (.cells (Nd.cells ⟨kd, w0, w1, w2, w3, xa, xb, mm, M, xn⟩) 73)))
   unfold Nd.cells at kM Xd
   clear dd kD KZ ZA HW2
   go_upto_region 4 with fail
   rw [HS2.out]
   obtain ⟨W3, hW3⟩ : ∃ W3, W3 = (wc.alloc (.cells #[.int .i64 kd, .int .u64 w0, .int .u64 w1, .int .u64 w2, .int .u64 w3, .int .i64 xa, .int .i64 xb, .int .i64 mm, .int .i64 M, .int .i64 xn] 73)) := ⟨_, rfl⟩
   rw [← hW3] at kM Xd ⊢
   clear hW3 g_ HS2
   have k_ := (kM.out).had.ten
   obtain ⟨n0, n1, n2, n3, n4, n5, n6, n7, n8, n9⟩ := j9 (kM.out).nod
   rcases HK.out with ⟨ks, hf⟩ | ⟨ks, XI, hf⟩ | ⟨ks, hf⟩ | ⟨ks, hf⟩ | ⟨ks, a, q, fA, fB, ha, hb, hA, hB, hf⟩ | ⟨ks, a, q, fA, fB, ha, hb, hA, hB, hf⟩ | ⟨ks, XI, a, fA, ha, hA, hTi, hf⟩ | ⟨ks, a, g, fA, ha, hg, hg9, hA, hf⟩ | ⟨ks, g, hg, hg9, hf⟩
   ·(try simp only at ks)
    subst ks
    have HF := ξ (vZ.out.trans (hf i j c))
    clear hf
    obtain ⟨R, hR⟩ : ∃ R, R = decide (i = j) := ⟨_, rfl⟩
    have e1 : ((i : Int) == (j : Int)) = R := by rw [hR, Bool.eq_iff_iff, beq_iff_eq, decide_eq_true_iff]; omega
    have HR := ξ hR
    clear hR
    obtain ⟨V0, qT⟩ := (kM.out).res
    have r_ := qT.rf10
    have za := ξ (qV qT c)
    have qE := ξ ((kM.out).put c)
    clear qT
    go_wp2
    refine bodyPost_ret (v := .tuple #[.agg (cH c), .bool R]) (by simp [results, results66, go_sem, za.out]) rfl ?_
    exact ZZ qE.out.bel HF.out HR.out
   ·(have hs := VW.out; simp only at ks; omega)
   ·(try simp only at ks)
    subst ks
    have HF := ξ (vZ.out.trans (hf i j c))
    clear hf
    obtain ⟨R, hR⟩ : ∃ R, R = decide (j = 0) := ⟨_, rfl⟩
    have e2 : ((j : Int) == 0) = R := by rw [hR, Bool.eq_iff_iff, beq_iff_eq, decide_eq_true_iff]; omega
    have HR := ξ hR
    clear hR
    by_cases q : i = 0
    ·have e1 : ((i : Int) == 0) = true := by rw [beq_iff_eq]; omega
     have HQ := ξ q
     clear q
     obtain ⟨V0, qT⟩ := (kM.out).res
     have r_ := qT.rf10
     have za := ξ (qV qT c)
     have qE := ξ ((kM.out).put c)
     clear qT
     go_wp2
     refine bodyPost_ret (v := .tuple #[.agg (cH c), .bool R]) (by simp [results, results66, go_sem, za.out]) rfl ?_
     exact ZZ qE.out.bel HF.out (by rw [HR.out, decide_eq_decide]; exact ⟨fun h => ⟨HQ.out, h⟩, fun h => h.2⟩)
    ·have e1 : ((i : Int) == 0) = false := by rw [beq_eq_false_iff_ne]; omega
     have HQ := ξ q
     clear q
     obtain ⟨V0, qT⟩ := (kM.out).res
     have r_ := qT.rf10
     have za := ξ (qV qT c)
     have qE := ξ ((kM.out).put c)
     clear qT
     go_wp2
     refine bodyPost_ret (v := .tuple #[.agg (cH c), .bool false]) (by simp [results, results66, go_sem, za.out]) rfl ?_
     exact zY qE.out.bel (by rw [HF.out, if_neg (fun h => HQ.out h.1)])
   ·(try simp only at ks)
    subst ks
    have HF := ξ (vZ.out.trans (hf i j c))
    clear hf
    obtain ⟨R, hR⟩ : ∃ R, R = decide (j = Z.s.length) := ⟨_, rfl⟩
    have e2 : ((j : Int) == (Z.s.length : Int)) = R := by rw [hR, Bool.eq_iff_iff, beq_iff_eq, decide_eq_true_iff]; omega
    have HR := ξ hR
    clear hR
    by_cases q : i = Z.s.length
    ·have e1 : ((i : Int) == (Z.s.length : Int)) = true := by rw [beq_iff_eq]; omega
     have HQ := ξ q
     clear q
     obtain ⟨V0, qT⟩ := (kM.out).res
     have r_ := qT.rf10
     have za := ξ (qV qT c)
     have qE := ξ ((kM.out).put c)
     clear qT
     go_wp2
     refine bodyPost_ret (v := .tuple #[.agg (cH c), .bool R]) (by simp [results, results66, go_sem, za.out]) rfl ?_
     exact ZZ qE.out.bel HF.out (by rw [HR.out, decide_eq_decide]; exact ⟨fun h => ⟨HQ.out, h⟩, fun h => h.2⟩)
    ·have e1 : ((i : Int) == (Z.s.length : Int)) = false := by rw [beq_eq_false_iff_ne]; omega
     have HQ := ξ q
     clear q
     obtain ⟨V0, qT⟩ := (kM.out).res
     have r_ := qT.rf10
     have za := ξ (qV qT c)
     have qE := ξ ((kM.out).put c)
     clear qT
     go_wp2
     refine bodyPost_ret (v := .tuple #[.agg (cH c), .bool false]) (by simp [results, results66, go_sem, za.out]) rfl ?_
     exact zY qE.out.bel (by rw [HF.out, if_neg (fun h => HQ.out h.1)])
   ·(try simp only at ks)
    subst ks
    (try simp only at ha hb)
    subst ha hb
    have HF := ξ (vZ.out.trans (hf i j c))
    have HA := ξ hA
    have HB := ξ hB
    clear hf hA hB k_ n0 n1 n2 n3 n4 n5 n6 n7 n8 n9
    obtain ⟨Fk, VN⟩ : ∃ Fk : Nat → Option Cp, Fk = fun k => (fA i k c).bind (fB k j) := ⟨_, rfl⟩
    rw [← VN] at HF
    have HFk := ξ VN
    clear VN
    have n0 : W3.cell? ⟨w.heap.size + 2, 0, none⟩ = some (.int .i64 4) := kM.out.nod.cell 0
    go_wp2
    go_loopw [17] (fun kv wr => ∃ (m : Nat) (z : Int), z = (m : Int) - 1 ∧ i ≤ m ∧ m ≤ j + 1 ∧ kv = .int .i64 z ∧ j8 w wr c ⟨4, w0, w1, w2, w3, (a : Int), (q : Int), mm, M, xn⟩ ∧ Zm Z wr ∧ ∀ k, m ≤ k → k ≤ j → Fk k = none) (fun kv _ => (RowKit.intOf kv + 1).toNat)
    case atStart => exact ⟨j + 1, _, by omega, by omega, Nat.le_refl _, rfl, kM.out, Xd.out, fun k h1 h2 => absurd h1 (by omega)⟩
    case round =>
     obtain ⟨m, z, hz, him, hmj, rfl, hJ, hWr, hFn⟩ := hrel
     have HJ := ξ hJ
     have HWr := ξ hWr
     have HFN := ξ hFn
     clear hJ hWr hFn
     by_cases zb : i < m
     ·obtain ⟨k, rfl⟩ : ∃ k, m = k + 1 := ⟨m - 1, by omega⟩
      obtain rfl : z = (k : Int) := by omega
      clear hz
      have ZX : (i : Int) ≤ (k : Int) := by omega
      have hik : i ≤ k := by omega
      have Jl : k ≤ j := by omega
      have kw : IntKind.i64.wrap ((k : Int) - 1) = (k : Int) - 1 := by simp [IntKind.wrap, IntKind.signed, IntKind.bits]; omega
      clear zb him hmj
      obtain ⟨nt, Vz⟩ : ∃ nt : Bool, nt = (decide (0 < Z.gl) && !Z.G q k j) := ⟨_, rfl⟩
      have KZ := ξ Vz
      have HN2 : Hid (nt = true → Fk k = none) := ξ (fun e => by
       rw [Vz, Bool.and_eq_true, Bool.not_eq_true'] at e
       rw [HFk.out]
       show (fA i k c).bind (fB k j) = none
       cases ZB : fA i k c with
       | none => rfl
       | some d =>
        have h1 := HB.out.tab (of_decide_eq_true e.1) k j d (HA.out.cap i k c d qB hik (by omega) ZB) Jl hj
        rw [e.2] at h1
        show fB k j d = none
        cases zJ : fB k j d with
        | none => rfl
        | some d => rw [zJ] at h1; cases h1)
      clear Vz
      have n6 : wr.cell? ⟨w.heap.size + 2, 6, none⟩ = some (.int .i64 (q : Int)) := HJ.out.nod.cell 6
      have n5 : wr.cell? ⟨w.heap.size + 2, 5, none⟩ = some (.int .i64 (a : Int)) := HJ.out.nod.cell 5
      have k_ := HJ.out.had.ten
      go_upto_region 17 with fail
      go_cut [118] (fun v wx => v = .bool nt ∧ wx = wr)
      case first =>
       rcases HWr.out.tabs with h0 | ⟨h1, hT⟩
       ·obtain rfl : false = nt := by rw [KZ.out, h0]; rfl
        have l0 : ¬ (0 : Int) < (Z.gl : Int) := by omega
        clear h0
        go_wp2_with fail
        go_meet
        exact ⟨rfl, rfl⟩
       ·have u0 := hT.top q HB.out.lt
        have u1 := (hT.grid q HB.out.lt).top.cell k (by have := HZ.out.n1; omega)
        have u2 := ((hT.grid q HB.out.lt).row k (by have := HZ.out.n1; omega)).cell j (by have := HZ.out.n1; omega)
        have hql := HB.out.lt
        have l0 : (0 : Int) < (Z.gl : Int) := by omega
        have l1 : (q : Int) < (Z.gl : Int) := by omega
        have li : (k : Int) < (Z.n : Int) := by have := HZ.out.n1; omega
        have lj : (j : Int) < (Z.n : Int) := by have := HZ.out.n1; omega
        obtain ⟨V, hV⟩ : ∃ V, V = Z.G q k j := ⟨_, rfl⟩
        simp only [bR] at u2
        unfold zF at u1
        rw [← hV] at u2
        have HV : Hid (nt = !V) := ξ (by rw [KZ.out, decide_eq_true (by omega), hV]; rfl)
        clear hV hT h1
        go_wp2_with fail
        go_meet
        exact ⟨by rw [HV.out], rfl⟩
      case rest =>
       obtain ⟨rfl, hwc⟩ := hcut
       subst hwc
       cases nt with
       | true =>
        have HF0 := ξ (HN2.out rfl)
        go_wp2
        go_roundw
        case rel => exact ⟨k, _, rfl, hik, by omega, rfl, HJ.out, HWr.out, fun k' h1 h2 => by
         by_cases e : k' = k
         ·subst e; exact HF0.out
         ·exact HFN.out k' (by omega) h2⟩
        case measure => (simp [RowKit.intOf]) <;> omega
       | false =>
        clear HN2 KZ
        have qh := HA.out.call i k c wc HWr.out qB hik (by omega)
        unfold qk at qh
        have qp := ξ qh
        clear qh
        go_wp2_with fail
        refine qp.out.mono ?_
        rintro e w5 ⟨⟨d, R, rfl, hR, hd⟩, ki⟩
        unfold qk
        have XN := ξ ((HJ.out.below ki).below ((Below.refl _ w5).alloc (Nat.le_refl _) (.cells (cH d) 30)))
        have QH := ξ ((HWr.out.below ki).below ((Below.refl _ w5).alloc (Nat.le_refl _) (.cells (cH d) 30)))
        have HR := ξ (ζ hR hd)
        clear hR hd ki k_ n5 n6
        cases R with
        | false =>
         have HF0 : Hid (Fk k = none) := ξ (by
          rw [HFk.out]
          show (fA i k c).bind (fB k j) = none
          cases ZB : fA i k c with
          | none => rfl
          | some d => have := HR.out.1; rw [ZB] at this; cases this)
         go_wp2
         go_roundw
         case rel => exact ⟨k, _, rfl, hik, by omega, rfl, XN.out, QH.out, fun k' h1 h2 => by
          by_cases e : k' = k
          ·subst e; exact HF0.out
          ·exact HFN.out k' (by omega) h2⟩
         case measure => (simp [RowKit.intOf]) <;> omega
        | true =>
         have ZB : fA i k c = some d := by
          cases ZB : fA i k c with
          | none => have := HR.out.1; rw [ZB] at this; cases this
          | some d' => rw [HR.out.2 d' ZB]
         have HFA : Hid (Fk k = fB k j d) := ξ (by rw [HFk.out]; show (fA i k c).bind (fB k j) = _; rw [ZB]; rfl)
         have qh := HB.out.call k j d (w5.alloc (.cells (cH d) 30)) QH.out (HA.out.cap i k c d qB hik (by omega) ZB) Jl hj
         unfold qk at qh
         have JJ := ξ qh
         clear qh ZB
         have n6 : (w5.alloc (.cells (cH d) 30)).cell? ⟨w.heap.size + 2, 6, none⟩ = some (.int .i64 (q : Int)) := XN.out.nod.cell 6
         go_wp2_with fail
         refine JJ.out.mono ?_
         rintro e w6 ⟨⟨d2, R2, rfl, WC, QY⟩, jY⟩
         unfold qk
         have Ya := ξ ((XN.out.below jY).below ((Below.refl _ w6).alloc (Nat.le_refl _) (.cells (cH d2) 30)))
         have HW6 := ξ ((QH.out.below jY).below ((Below.refl _ w6).alloc (Nat.le_refl _) (.cells (cH d2) 30)))
         have vC := ξ (ζ WC QY)
         clear WC QY jY n6
         cases R2 with
         | false =>
          have HF0 : Hid (Fk k = none) := ξ (by
           rw [HFA.out]
           cases zJ : fB k j d with
           | none => rfl
           | some d => have := vC.out.1; rw [zJ] at this; cases this)
          go_wp2
          go_roundw
          case rel => exact ⟨k, _, rfl, hik, by omega, rfl, Ya.out, HW6.out, fun k' h1 h2 => by
           by_cases e : k' = k
           ·subst e; exact HF0.out
           ·exact HFN.out k' (by omega) h2⟩
          case measure => (simp [RowKit.intOf]) <;> omega
         | true =>
          have JI : Hid (ans = some d2) := ξ (by
           rw [HF.out]
           refine KH hik ?_ j Jl (fun k' h1 h2 => HFN.out k' (by omega) h2)
           rw [HFA.out]
           cases zJ : fB k j d with
           | none => have := vC.out.1; rw [zJ] at this; cases this
           | some d' => rw [vC.out.2 d' zJ])
          have q_ := (qm.new w6 10 30 (fun g => qj (d2 g))).ten
          obtain ⟨V0, qT⟩ := (Ya.out).res
          have r_ := qT.rf10
          have za := ξ (qV qT d2)
          have qE := ξ ((Ya.out).put d2)
          clear qT
          go_wp2
          refine bodyPost_ret (v := .tuple #[.agg (cH d2), .bool true]) (by simp [results, results66, go_sem, za.out]) rfl ?_
          exact vF qE.out.bel JI.out
     ·obtain rfl : i = m := by omega
      subst hz
      have ZX : ¬ (i : Int) ≤ (i : Int) - 1 := by omega
      have JI : Hid (ans = none) := ξ (by rw [HF.out]; exact JK j (fun k h1 h2 => HFN.out k h1 h2))
      have k_ := HJ.out.had.ten
      obtain ⟨V0, qT⟩ := (HJ.out).res
      have r_ := qT.rf10
      have za := ξ (qV qT c)
      have qE := ξ ((HJ.out).put c)
      clear qT
      go_wp2
      refine bodyPost_ret (v := .tuple #[.agg (cH c), .bool false]) (by simp [results, results66, go_sem, za.out]) rfl ?_
      exact zY qE.out.bel JI.out
   ·(try simp only at ks)
    subst ks
    (try simp only at ha hb)
    subst ha hb
    have HF := ξ (vZ.out.trans (hf i j c))
    have HB := ξ hB
    have qh := hA.call i j c W3 Xd.out qB kh hj
    unfold qk at qh
    have qp := ξ qh
    clear hf hA hB qh
    go_wp2_with fail
    refine qp.out.mono ?_
    rintro e w5 ⟨⟨d, R, rfl, hR, hd⟩, ki⟩
    unfold qk
    have XN := ξ ((kM.out.below ki).below ((Below.refl _ w5).alloc (Nat.le_refl _) (.cells (cH d) 30)))
    have QH := ξ ((Xd.out.below ki).below ((Below.refl _ w5).alloc (Nat.le_refl _) (.cells (cH d) 30)))
    have HR := ξ (ζ hR hd)
    clear hR hd ki k_ n0 n1 n2 n3 n4 n5 n6 n7 n8 n9
    cases R with
    | true =>
     have JI : Hid (ans = some d) := ξ (by
      rw [HF.out]
      cases ZB : fA i j c with
      | none => have := HR.out.1; rw [ZB] at this; cases this
      | some d' => rw [HR.out.2 d' ZB])
     have q_ := (qm.new w5 10 30 (fun g => qj (d g))).ten
     obtain ⟨V0, qT⟩ := (XN.out).res
     have r_ := qT.rf10
     have za := ξ (qV qT d)
     have qE := ξ ((XN.out).put d)
     clear qT
     go_wp2
     refine bodyPost_ret (v := .tuple #[.agg (cH d), .bool true]) (by simp [results, results66, go_sem, za.out]) rfl ?_
     exact vF qE.out.bel JI.out
    | false =>
     have JI : Hid (ans = fB i j c) := ξ (by
      rw [HF.out]
      cases ZB : fA i j c with
      | none => rfl
      | some d' => have := HR.out.1; rw [ZB] at this; cases this)
     have qh := HB.out.call i j c (w5.alloc (.cells (cH d) 30)) QH.out qB kh hj
     unfold qk at qh
     have JJ := ξ qh
     clear qh
     have n6 : (w5.alloc (.cells (cH d) 30)).cell? ⟨w.heap.size + 2, 6, none⟩ = some (.int .i64 (q : Int)) := XN.out.nod.cell 6
     have k_ := XN.out.had.ten
     go_wp2_with fail
     refine JJ.out.mono ?_
     rintro e w6 ⟨⟨d2, R2, rfl, WC, QY⟩, jY⟩
     unfold qk
     have Ya := ξ (XN.out.below jY)
     have vC := ξ (ζ WC QY)
     clear WC QY jY n6 k_
     obtain ⟨V0, qT⟩ := (Ya.out).res
     have r_ := qT.rf10
     have za := ξ (qV qT d2)
     have qE := ξ ((Ya.out).put d2)
     clear qT
     go_wp2
     refine bodyPost_ret (v := .tuple #[.agg (cH d2), .bool R2]) (by simp [results, results66, go_sem, za.out]) rfl ?_
     exact Q4 qE.out.bel (by rw [JI.out]; exact vC.out.1) (by rw [JI.out]; exact vC.out.2)
   ·(have hs := VW.out; simp only at ks; omega)
   ·(try simp only at ks)
    subst ks
    (try simp only at ha hg)
    subst ha hg
    have HF := ξ (vZ.out.trans (hf i j c))
    have qh := hA.call i j c W3 Xd.out qB kh hj
    unfold qk at qh
    have qp := ξ qh
    clear hf hA qh
    go_wp2_with fail
    refine qp.out.mono ?_
    rintro e w5 ⟨⟨d, R, rfl, hR, hd⟩, ki⟩
    unfold qk
    have HA5 : Hid (qm (w5.alloc (.cells (cH d) 30)) w5.heap.size 10 30 (fun g => qj (d g))) := ξ (qm.new w5 10 30 (fun g => qj (d g)))
    have XN := ξ ((kM.out.below ki).below ((Below.refl _ w5).alloc (Nat.le_refl _) (.cells (cH d) 30)))
    have HS5 := ξ (kM.out.below ki).size
    have HR := ξ (ζ hR hd)
    clear hR hd ki k_ n0 n1 n2 n3 n4 n5 n6 n7 n8 n9
    cases R with
    | false =>
     have JI : Hid (ans = none) := ξ (by
      rw [HF.out]
      cases ZB : fA i j c with
      | none => rfl
      | some d' => have := HR.out.1; rw [ZB] at this; cases this)
     have q_ := HA5.out.ten
     obtain ⟨V0, qT⟩ := (XN.out).res
     have r_ := qT.rf10
     have za := ξ (qV qT d)
     have qE := ξ ((XN.out).put d)
     clear qT
     go_wp2
     refine bodyPost_ret (v := .tuple #[.agg (cH d), .bool false]) (by simp [results, results66, go_sem, za.out]) rfl ?_
     exact zY qE.out.bel JI.out
    | true =>
     obtain ⟨d', hd'⟩ : ∃ d' : Cp, d' = fun q => if q = g then some (i, j) else d q := ⟨_, rfl⟩
     have JI : Hid (ans = some d') := ξ (by
      rw [HF.out, hd']
      cases ZB : fA i j c with
      | none => have := HR.out.1; rw [ZB] at this; cases this
      | some d'' => rw [HR.out.2 d'' ZB]; rfl)
     have HOF : Hid (∀ W, Calls prog 67 #[.int .i64 (i : Int), .int .i64 (j : Int)] W fun e w' => e = .returned (.tuple #[.complex .f64 (floatOfInt .f64 (i : Int)) (floatOfInt .f64 (j : Int)), .bool true]) ∧ w' = W) := ξ (fun W => (qaf i j W (by omega) (by omega) (by omega)).mono (fun e w' h => ⟨h.1, h.2.symm⟩))
     obtain ⟨vx, hvx⟩ : ∃ v, v = floatOfInt .f64 (i : Int) := ⟨_, rfl⟩
     obtain ⟨vy, hvy⟩ : ∃ v, v = floatOfInt .f64 (j : Int) := ⟨_, rfl⟩
     have HV : Hid (qj (some (i, j)) = .complex .f64 vx vy) := ξ (by rw [hvx, hvy]; rfl)
     rw [← hvx, ← hvy] at HOF
     clear hvx hvy
     have HAX : Hid (∀ (W : World) (D : Cp), (D = d ∨ D = d') → qm W w5.heap.size 10 30 (fun g => qj (D g)) → qm (W.setCell ⟨w5.heap.size, g, none⟩ (.complex .f64 vx vy)) w5.heap.size 10 30 (fun q => qj (d' q))) := ξ (fun W D hD hW => (hW.set g _).congr fun q _ => by
      rw [← HV.out]
      show (if q = g then qj (some (i, j)) else qj (D q)) = qj (d' q)
      by_cases e : q = g
      ·rw [if_pos e, hd']
       show _ = qj (if q = g then some (i, j) else d q)
       rw [if_pos e]
      ·rw [if_neg e]
       rcases hD with rfl | rfl
       ·rw [hd']
        show _ = qj (if q = g then some (i, j) else D q)
        rw [if_neg e]
       ·rfl)
     have HS5b := ξ (show w.heap.size + 3 ≤ w5.heap.size by have := HS5.out; omega)
     have hgi : (g : Int) < 10 := by omega
     clear hd'
     go_upto_region 37 with fail
     obtain ⟨W6, hW6⟩ : ∃ W6, W6 = (w5.alloc (.cells (cH d) 30)) := ⟨_, rfl⟩
     rw [← hW6] at HA5 XN ⊢
     clear hW6
     refine wp_region_noPanic ?_
     refine wp_region_held_drew (S := fun w' => j8 w w' c ⟨7, w0, w1, w2, w3, (a : Int), xb, mm, M, (g : Int)⟩ ∧ ∃ D : Cp, qm w' w5.heap.size 10 30 (fun q => qj (D q)) ∧ (D = d ∨ D = d')) (by kernel_rfl) ?_ (fun qe => ?_)
     ·(try dsimp only); exact ⟨XN.out.drew, d, HA5.out.drew, Or.inl rfl⟩
     refine tq 0 ?_
     refine tq 1 ?_ (hy := by (intro wq qi; obtain ⟨sJ, sD⟩ := qi; have n9 : wq.cell? ⟨w.heap.size + 2, 9, none⟩ = some (.int .i64 (g : Int)) := sJ.nod.cell 9; go_simp); (try rfl))
     refine tq 2 ?_
     refine tq 3 ?_
     refine zU 4 fun K hK => ?_
     go_simp
     have Zo := qe
     refine (HOF.out _).mono ?_
     rintro e w7 ⟨rfl, hw7⟩
     obtain rfl := hw7
     refine hK.out _ _ ?_ (fun qe => ?_)
     ·(try dsimp only); exact Zo
     clear hK K Zo
     (try simp only [Act.put, zm])
     refine tq 5 ?_
     refine tq 6 ?_
     refine tq 7 ?_
     refine zU 8 fun K hK => ?_
     go_simp
     refine hK.out _ _ ?_ (fun qe => ?_)
     ·(try dsimp only); exact qe
     clear hK K
     (try simp only [Act.put, zm])
     refine zU 9 fun K hK => ?_
     have sc := HA5.out.cell g (by omega)
     have sf := HA5.out.fz g
     have qeR := ξ (HAX.out _ d (Or.inl rfl) HA5.out)
     have XM := ξ (XN.out.other HS5b.out g (.complex .f64 vx vy))
     go_simp
     refine hK.out _ _ ?_ (fun vL => ?_)
     ·(try dsimp only); exact ⟨XM.out.drew, d', qeR.out.drew, Or.inr rfl⟩
     clear hK K vL sc sf
     (try simp only [Act.put, zm])
     refine wpAnyH_done (by kernel_rfl) ?_ _
     refine NoPanic.normal ?_
     go_upto_region 38 with fail
     generalize hW7 : (W6.setCell ⟨w5.heap.size, g, none⟩ (.complex .f64 vx vy)) = W7 at qeR XM ⊢
     clear hW7
     have q_ := qeR.out.ten
     obtain ⟨V0, qT⟩ := (XM.out).res
     have r_ := qT.rf10
     have za := ξ (qV qT d')
     have qE := ξ ((XM.out).put d')
     clear qT
     go_wp2
     refine bodyPost_ret (v := .tuple #[.agg (cH d'), .bool true]) (by simp [results, results66, go_sem, za.out]) rfl ?_
     exact vF qE.out.drew.bel JI.out
   ·(have hs := VW.out; simp only at ks; omega)
theorem ZK (Z : FZ) (hZ : Z.Ok) (p : Nat) (kd : Int) (w0 w1 w2 w3 : Nat) (xa xb mm M xn : Int) (hx : Z.xs[p]? = some ⟨kd, w0, w1, w2, w3, xa, xb, mm, M, xn⟩) (f : Nat → Nat → Cp → Option Cp) (ht : qba Z p f) (hs : kd = 1 ∨ kd = 6 ∨ kd = 8) (hk : qf1 Z p ⟨kd, w0, w1, w2, w3, xa, xb, mm, M, xn⟩ f) : qf3 Z p f := by
 intro i j c w hW qB kh hj
 have VW := ξ hs
 clear hs
 have kR : (⟨Z.s.toArray⟩ : ByteArray).size = Z.s.length := by simp [ByteArray.size]
 obtain ⟨ans, QG⟩ : ∃ a, a = f i j c := ⟨_, rfl⟩
 rw [← QG]
 obtain ⟨nt, Vz⟩ : ∃ nt : Bool, nt = (decide (0 < Z.gl) && !Z.G p i j) := ⟨_, rfl⟩
 have kz : nt = true → ans = none := fun e => by
  rw [Vz, Bool.and_eq_true, Bool.not_eq_true'] at e
  have h1 := ht.tab (of_decide_eq_true e.1) i j c qB kh hj
  rw [e.2, ← QG] at h1
  cases ans with
  | none => rfl
  | some d => cases h1
 have hpi : (p : Int) < (Z.len : Int) := by have := ht.lt; omega
 have zj : Below w.heap.size w ((w.alloc (.cells (cH c) 30)).alloc (.cells cZ 30)) := (Xc.new w c).bel
 have ZA := ξ (Xc.new w c)
 have HW2 := ξ (hW.below zj)
 have KZ := ξ Vz
 have kD := ξ kz
 have vZ := ξ QG
 have HK := ξ hk
 have HX := ξ hx
 have HT := ξ ht
 have HZ := ξ hZ
 have HC := ξ (ζ qB (ζ kh hj))
 have h90 := hZ.s90
 have Kx := hZ.l
 clear Vz kz QG hk hx ht hZ qB hW zj
 unfold qk
 go_enter func66, ntmps66
 go_upto_region 1 with fail
 obtain ⟨W2, Vy⟩ : ∃ W2, W2 = ((w.alloc (.cells (cH c) 30)).alloc (.cells cZ 30)) := ⟨_, rfl⟩
 rw [← Vy] at ZA HW2 ⊢
 clear Vy
 go_cut [42] (fun v wx => v = .bool nt ∧ wx = W2)
 case first =>
  rcases HW2.out.tabs with h0 | ⟨h1, hT⟩
  ·obtain rfl : false = nt := by rw [KZ.out, h0]; rfl
   have l0 : ¬ (0 : Int) < (Z.gl : Int) := by omega
   clear h0
   go_wp2_with fail
   go_meet
   exact ⟨rfl, rfl⟩
  ·have u0 := hT.top p HT.out.lt
   have u1 := (hT.grid p HT.out.lt).top.cell i (by have := HZ.out.n1; omega)
   have u2 := ((hT.grid p HT.out.lt).row i (by have := HZ.out.n1; omega)).cell j (by have := HZ.out.n1; omega)
   have l0 : (0 : Int) < (Z.gl : Int) := by omega
   have l1 : (p : Int) < (Z.gl : Int) := by omega
   have li : (i : Int) < (Z.n : Int) := by have := HZ.out.n1; omega
   have lj : (j : Int) < (Z.n : Int) := by have := HZ.out.n1; omega
   obtain ⟨V, hV⟩ : ∃ V, V = Z.G p i j := ⟨_, rfl⟩
   simp only [bR] at u2
   unfold zF at u1
   rw [← hV] at u2
   have HV : Hid (nt = !V) := ξ (by rw [KZ.out, decide_eq_true (by omega), hV]; rfl)
   clear hV hT h1
   go_wp2_with fail
   go_meet
   exact ⟨by rw [HV.out], rfl⟩
 case rest =>
  obtain ⟨rfl, hwc⟩ := hcut
  subst hwc
  obtain ⟨qB, kh, hj⟩ := HC.out
  cases nt with
  | true =>
   have Gi := ξ (kD.out rfl)
   obtain ⟨V0, qT⟩ := ZA.out.res
   have r_ := qT.rf10
   have za := ξ (qV qT c)
   have HB := ξ (ZA.out.bel.trans ((kn (w := wc) (b := w.heap.size + 1) c).below (by have := ZA.out.size; omega) (fun i e => by subst e; exact Nat.le_succ _)))
   clear qT
   have k_ := ZA.out.had.ten
   go_wp2
   refine bodyPost_ret (v := .tuple #[.agg (cH c), .bool false]) (by simp [results, results66, go_sem, za.out]) rfl ?_
   exact zY HB.out Gi.out
  | false =>
   have dd := HW2.out.nodes.cell p _ HX.out
   have g_ := zB dd
   have HS2 := ξ ZA.out.size
   have kM := ξ (ZA.out.node ⟨kd, w0, w1, w2, w3, xa, xb, mm, M, xn⟩)
   have Xd := ξ (HW2.out.below ((Below.refl _ _).alloc (Nat.le_refl _) (.cells (Nd.cells ⟨kd, w0, w1, w2, w3, xa, xb, mm, M, xn⟩) 73)))
   unfold Nd.cells at kM Xd
   clear dd kD KZ ZA HW2
   go_upto_region 4 with fail
   rw [HS2.out]
   obtain ⟨W3, hW3⟩ : ∃ W3, W3 = (wc.alloc (.cells #[.int .i64 kd, .int .u64 w0, .int .u64 w1, .int .u64 w2, .int .u64 w3, .int .i64 xa, .int .i64 xb, .int .i64 mm, .int .i64 M, .int .i64 xn] 73)) := ⟨_, rfl⟩
   rw [← hW3] at kM Xd ⊢
   clear hW3 g_ HS2
   have k_ := (kM.out).had.ten
   obtain ⟨n0, n1, n2, n3, n4, n5, n6, n7, n8, n9⟩ := j9 (kM.out).nod
   rcases HK.out with ⟨ks, hf⟩ | ⟨ks, XI, hf⟩ | ⟨ks, hf⟩ | ⟨ks, hf⟩ | ⟨ks, a, q, fA, fB, ha, hb, hA, hB, hf⟩ | ⟨ks, a, q, fA, fB, ha, hb, hA, hB, hf⟩ | ⟨ks, XI, a, fA, ha, hA, hTi, hf⟩ | ⟨ks, a, g, fA, ha, hg, hg9, hA, hf⟩ | ⟨ks, g, hg, hg9, hf⟩
   ·(have hs := VW.out; simp only at ks; omega)
   ·(try simp only at ks)
    subst ks
    have HF := ξ (vZ.out.trans (hf i j c))
    clear hf
    obtain ⟨q0, q1, q2, q3⟩ := jK XI.s0 XI.s1 XI.s2 XI.s3
    have HTO : Hid (∀ W, Calls prog 108 #[.agg #[.int .u64 w0, .int .u64 w1, .int .u64 w2, .int .u64 w3]] W fun e w' => e = .returned (bv (qS w0 w1 w2 w3)) ∧ Below W.heap.size W w') := ξ (fun W => by
     have := G9 (qS w0 w1 w2 w3) W
     unfold sv at this
     simp only at q0 q1 q2 q3
     rw [q0, q1, q2, q3] at this
     exact this)
    clear q0 q1 q2 q3 XI
    have jw : IntKind.i64.wrap ((i : Int) + 1) = (i : Int) + 1 := by simp [IntKind.wrap, IntKind.signed, IntKind.bits]; omega
    by_cases q : j = i + 1
    ·have hil : i < Z.s.length := by omega
     obtain ⟨ch, hc⟩ : ∃ ch, Z.s[i]? = some ch := ⟨Z.s[i]'hil, List.getElem?_eq_getElem _⟩
     have hsc : (⟨Z.s.toArray⟩ : ByteArray)[i]'(by rw [kR]; exact hil) = ch := by
      obtain ⟨h1, h2⟩ := List.getElem?_eq_some_iff.1 hc
      exact h2
     obtain ⟨V, hV⟩ : ∃ V, V = qS w0 w1 w2 w3 ch.toNat := ⟨_, rfl⟩
     have HIX : Hid (∀ W, (Instr.index 149 (bv (qS w0 w1 w2 w3)) (.int .u8 (ch.toNat : Int))).run prog W = .ok (.bool V) W) := ξ (fun W => by rw [hV]; exact WF _ _ ch.toNat_lt W)
     have HV : Hid (V = decide (j = i + 1 ∧ (match Z.s[i]? with | some c => Nd.set ⟨1, w0, w1, w2, w3, xa, xb, mm, M, xn⟩ c.toNat | none => false) = true)) := ξ (by
      rw [hc, hV, Bool.eq_iff_iff, decide_eq_true_iff]
      exact ⟨fun h => ⟨q, h⟩, fun h => h.2⟩)
     have e1 : ((j : Int) == (i : Int) + 1) = true := by rw [beq_iff_eq]; omega
     have hili : (i : Int) < (Z.s.length : Int) := by omega
     clear hc hV q
     obtain ⟨BV, hBV⟩ : ∃ BV, BV = bv (qS w0 w1 w2 w3) := ⟨_, rfl⟩
     rw [← hBV] at HTO HIX
     clear hBV
     go_wp2_with fail
     refine wp_region_noPanic ?_
     refine wp_region_held_drew (S := fun w' => j8 w w' c ⟨1, w0, w1, w2, w3, xa, xb, mm, M, xn⟩) (by kernel_rfl) ?_ (fun qe => ?_)
     ·(try dsimp only); exact kM.out.drew
     refine tq 0 ?_ (hy := by (intro wq qi; have k_ := qi.had.ten; go_simp); (try rfl))
     refine tq 1 ?_
     refine tq 2 ?_
     refine tq 3 ?_
     refine tq 4 ?_
     refine tq 5 ?_
     refine tq 6 ?_
     refine tq 7 ?_ (hy := by (intro wq qi; have b1 : wq.cell? ⟨w.heap.size + 2, 1, none⟩ = some (.int .u64 w0) := qi.nod.cell 1; have b2 : wq.cell? ⟨w.heap.size + 2, 2, none⟩ = some (.int .u64 w1) := qi.nod.cell 2; have b3 : wq.cell? ⟨w.heap.size + 2, 3, none⟩ = some (.int .u64 w2) := qi.nod.cell 3; have b4 : wq.cell? ⟨w.heap.size + 2, 4, none⟩ = some (.int .u64 w3) := qi.nod.cell 4; go_simp); (try rfl))
     refine tq 9 ?_
     refine tq 10 ?_
     refine wpAnyH_ready (rs := [8, 11]) (by kernel_rfl) (by simp) ?_
     refine AllReadyH.cons rfl (fun K hK => ?_) (AllReadyH.cons rfl (fun K hK => ?_) AllReadyH.nil)
     focus
      go_simp
      have Zo := qe
      refine (HTO.out _).mono ?_
      rintro e w5 ⟨rfl, ki⟩
      have JO := Zo.below ki
      refine hK.out _ _ ?_ (fun qe => ?_)
      ·(try dsimp only); exact JO
      clear hK K Zo JO ki
      (try simp only [Act.put, zm])
      refine wpAnyH_ready (rs := [11, 14]) (by kernel_rfl) (by simp) ?_
      refine AllReadyH.cons rfl (fun K hK => ?_) (AllReadyH.cons rfl (fun K hK => ?_) AllReadyH.nil)
      focus
       go_simp
       refine hK.out _ _ ?_ (fun qe => ?_)
       ·(try dsimp only); exact qe
       clear hK K
       (try simp only [Act.put, zm])
       refine wpAnyH_ready (rs := [12, 14]) (by kernel_rfl) (by simp) ?_
       refine AllReadyH.cons rfl (fun K hK => ?_) (AllReadyH.cons rfl (fun K hK => ?_) AllReadyH.nil)
       focus
        have hix := HIX.out
        go_simp
        clear hix
        refine hK.out _ _ ?_ (fun qe => ?_)
        ·(try dsimp only); exact qe
        clear hK K
        (try simp only [Act.put, zm])
        refine tq 13 ?_
        refine zU 14 fun K hK => ?_
        obtain ⟨V0, qT⟩ := (qe).res
        have r_ := qT.rf10
        have za := ξ (qV qT c)
        have qE := ξ ((qe).put c)
        clear qT
        go_simp
        refine hK.out _ _ ?_ (fun qe => ?_)
        ·(try dsimp only); exact qE.out
        clear hK K
        (try simp only [Act.put, zm])
       rotate_left
       focus
        obtain ⟨V0, qT⟩ := (qe).res
        have r_ := qT.rf10
        have za := ξ (qV qT c)
        have qE := ξ ((qe).put c)
        clear qT
        go_simp
        refine hK.out _ _ ?_ (fun qe => ?_)
        ·(try dsimp only); exact qE.out
        clear hK K
        (try simp only [Act.put, zm])
        refine zU 12 fun K hK => ?_
        have hix := HIX.out
        go_simp
        clear hix
        refine hK.out _ _ ?_ (fun qe => ?_)
        ·(try dsimp only); exact qe
        clear hK K
        (try simp only [Act.put, zm])
        refine tq 13 ?_
       rotate_left
      rotate_left
      rotate_left
      focus
       obtain ⟨V0, qT⟩ := (qe).res
       have r_ := qT.rf10
       have za := ξ (qV qT c)
       have qE := ξ ((qe).put c)
       clear qT
       go_simp
       refine hK.out _ _ ?_ (fun qe => ?_)
       ·(try dsimp only); exact qE.out
       clear hK K
       (try simp only [Act.put, zm])
       refine zU 11 fun K hK => ?_
       go_simp
       refine hK.out _ _ ?_ (fun qe => ?_)
       ·(try dsimp only); exact qe
       clear hK K
       (try simp only [Act.put, zm])
       refine zU 12 fun K hK => ?_
       have hix := HIX.out
       go_simp
       clear hix
       refine hK.out _ _ ?_ (fun qe => ?_)
       ·(try dsimp only); exact qe
       clear hK K
       (try simp only [Act.put, zm])
       refine tq 13 ?_
      rotate_left
     rotate_left
     rotate_left
     rotate_left
     focus
      go_simp
      refine hK.out _ _ ?_ (fun qe => ?_)
      ·(try dsimp only); exact qe
      clear hK K
      (try simp only [Act.put, zm])
      refine zU 8 fun K hK => ?_
      go_simp
      have Zo := qe
      refine (HTO.out _).mono ?_
      rintro e w5 ⟨rfl, ki⟩
      have JO := Zo.below ki
      refine hK.out _ _ ?_ (fun qe => ?_)
      ·(try dsimp only); exact JO
      clear hK K Zo JO ki
      (try simp only [Act.put, zm])
      refine wpAnyH_ready (rs := [12, 14]) (by kernel_rfl) (by simp) ?_
      refine AllReadyH.cons rfl (fun K hK => ?_) (AllReadyH.cons rfl (fun K hK => ?_) AllReadyH.nil)
      focus
       have hix := HIX.out
       go_simp
       clear hix
       refine hK.out _ _ ?_ (fun qe => ?_)
       ·(try dsimp only); exact qe
       clear hK K
       (try simp only [Act.put, zm])
       refine tq 13 ?_
       refine zU 14 fun K hK => ?_
       obtain ⟨V0, qT⟩ := (qe).res
       have r_ := qT.rf10
       have za := ξ (qV qT c)
       have qE := ξ ((qe).put c)
       clear qT
       go_simp
       refine hK.out _ _ ?_ (fun qe => ?_)
       ·(try dsimp only); exact qE.out
       clear hK K
       (try simp only [Act.put, zm])
      rotate_left
      focus
       obtain ⟨V0, qT⟩ := (qe).res
       have r_ := qT.rf10
       have za := ξ (qV qT c)
       have qE := ξ ((qe).put c)
       clear qT
       go_simp
       refine hK.out _ _ ?_ (fun qe => ?_)
       ·(try dsimp only); exact qE.out
       clear hK K
       (try simp only [Act.put, zm])
       refine zU 12 fun K hK => ?_
       have hix := HIX.out
       go_simp
       clear hix
       refine hK.out _ _ ?_ (fun qe => ?_)
       ·(try dsimp only); exact qe
       clear hK K
       (try simp only [Act.put, zm])
       refine tq 13 ?_
      rotate_left
     rotate_left
     rotate_left
     all_goals (
      refine tq 15 ?_
      refine wpAnyH_done (by kernel_rfl) ?_ _
      refine NoPanic.normal ?_
      go_wp2
      refine bodyPost_ret (v := .tuple #[.agg (cH c), .bool V]) (by simp [results, results66, go_sem, za.out]) rfl ?_
      exact ZZ qe.bel HF.out HV.out)
    ·have e1 : ((j : Int) == (i : Int) + 1) = false := by rw [beq_eq_false_iff_ne]; omega
     have HQ := ξ q
     clear q
     go_wp2_with fail
     refine wp_region_noPanic ?_
     refine wp_region_held_drew (S := fun w' => j8 w w' c ⟨1, w0, w1, w2, w3, xa, xb, mm, M, xn⟩) (by kernel_rfl) ?_ (fun qe => ?_)
     ·(try dsimp only); exact kM.out.drew
     refine tq 0 ?_ (hy := by (intro wq qi; have k_ := qi.had.ten; go_simp); (try rfl))
     refine tq 1 ?_
     refine tq 2 ?_
     refine tq 3 ?_
     refine tq 4 ?_
     refine tq 5 ?_
     refine tv 6 ?_
     refine tv 7 ?_
     refine tv 8 ?_
     refine tv 9 ?_
     refine tv 10 ?_
     refine tv 11 ?_
     refine tv 12 ?_
     refine tq 13 ?_
     refine zU 14 fun K hK => ?_
     obtain ⟨V0, qT⟩ := (kM.out).res
     have r_ := qT.rf10
     have za := ξ (qV qT c)
     have qE := ξ ((kM.out).put c)
     clear qT
     go_simp
     refine hK.out _ _ ?_ (fun qe => ?_)
     ·(try dsimp only); exact qE.out.drew
     clear hK K
     (try simp only [Act.put, zm])
     refine tq 15 ?_
     refine wpAnyH_done (by kernel_rfl) ?_ _
     refine NoPanic.normal ?_
     go_wp2
     refine bodyPost_ret (v := .tuple #[.agg (cH c), .bool false]) (by simp [results, results66, go_sem, za.out]) rfl ?_
     exact zY qe.bel (by rw [HF.out, if_neg (fun h => HQ.out h.1)])
   ·(have hs := VW.out; simp only at ks; omega)
   ·(have hs := VW.out; simp only at ks; omega)
   ·(have hs := VW.out; simp only at ks; omega)
   ·(have hs := VW.out; simp only at ks; omega)
   ·(try simp only at ks)
    subst ks
    (try simp only at ha hTi hf)
    subst ha
    have HF := ξ (vZ.out.trans (hf i j c))
    have HTI := ξ hTi
    have HA := ξ hA
    clear hf hTi hA
    have EE : Below W3.heap.size W3 (W3.alloc (.cells #[] 145)) := (Below.refl _ W3).alloc (Nat.le_refl _) _
    have HJ4 := ξ (kM.out.below EE)
    have jW := ξ (Xd.out.below EE)
    clear EE
    rcases Xd.out.tabs with h0 | ⟨h1, hT⟩
    ·have l0 : ¬ (0 : Int) < (Z.gl : Int) := by omega
     have qh := HTI.out (j - i) i j 0 c W3.heap.size 0 0 (W3.alloc (.cells #[] 145)) jW.out (Or.inl rfl) qB kh hj (Nat.zero_le _) (by omega)
     unfold qk at qh
     have qp := ξ qh
     clear qh h0 HTI
     have k_ := HJ4.out.had.ten
     go_wp2_with fail
     refine qp.out.mono ?_
     rintro e w6 ⟨⟨d2, R2, rfl, WC, QY⟩, jY⟩
     unfold qk
     have Ya := ξ (HJ4.out.below jY)
     have vC := ξ (ζ WC QY)
     clear WC QY jY k_
     obtain ⟨V0, qT⟩ := (Ya.out).res
     have r_ := qT.rf10
     have za := ξ (qV qT d2)
     have qE := ξ ((Ya.out).put d2)
     clear qT
     go_wp2
     refine bodyPost_ret (v := .tuple #[.agg (cH d2), .bool R2]) (by simp [results, results66, go_sem, za.out]) rfl ?_
     exact Q4 qE.out.bel (by rw [HF.out]; exact vC.out.1) (by rw [HF.out]; exact vC.out.2)
    ·have hgl : 0 < Z.gl := by have := HT.out.lt; omega
     have l0 : (0 : Int) < (Z.gl : Int) := by omega
     have l1 : (a : Int) < (Z.gl : Int) := by have := HA.out.lt; omega
     have Kp := fun W' (hW' : Zm Z W') => qak ⟨6, w0, w1, w2, w3, (a : Int), xb, mm, M, xn⟩ (Z.RT a) Z.n j (Z.RR a) (Z.G a) (by have := HZ.out.n1; omega) (by have := HZ.out.n1; omega) XI W' ((hW'.tabR hgl).grid a HA.out.lt)
     unfold Nd.v Nd.cells at Kp
     have VP := ξ Kp
     have HGL := ξ (ζ hgl h1)
     clear Kp hgl h1 hT k_ n0 n1 n2 n3 n4 n5 n6 n7 n8 n9 XI
     have n0 : (W3.alloc (.cells #[] 145)).cell? ⟨w.heap.size + 2, 0, none⟩ = some (.int .i64 6) := HJ4.out.nod.cell 0
     have n0' : W3.cell? ⟨w.heap.size + 2, 0, none⟩ = some (.int .i64 6) := kM.out.nod.cell 0
     go_wp2_with fail
     refine wp_region_noPanic ?_
     refine wp_region_held_drew (S := fun w' => j8 w w' c ⟨6, w0, w1, w2, w3, (a : Int), xb, mm, M, xn⟩ ∧ Zm Z w') (by kernel_rfl) ?_ (fun qe => ?_)
     ·(try dsimp only); exact ⟨HJ4.out.drew, jW.out.below (Below.refl _ _).drew⟩
     refine tq 0 ?_ (hy := by (intro wq qi; obtain ⟨sJ, sW⟩ := qi; have n0 : wq.cell? ⟨w.heap.size + 2, 0, none⟩ = some (.int .i64 6) := sJ.nod.cell 0; have n1 : wq.cell? ⟨w.heap.size + 2, 1, none⟩ = some (.int .u64 w0) := sJ.nod.cell 1; have n2 : wq.cell? ⟨w.heap.size + 2, 2, none⟩ = some (.int .u64 w1) := sJ.nod.cell 2; have n3 : wq.cell? ⟨w.heap.size + 2, 3, none⟩ = some (.int .u64 w2) := sJ.nod.cell 3; have n4 : wq.cell? ⟨w.heap.size + 2, 4, none⟩ = some (.int .u64 w3) := sJ.nod.cell 4; have n5 : wq.cell? ⟨w.heap.size + 2, 5, none⟩ = some (.int .i64 (a : Int)) := sJ.nod.cell 5; have n6 : wq.cell? ⟨w.heap.size + 2, 6, none⟩ = some (.int .i64 xb) := sJ.nod.cell 6; have n7 : wq.cell? ⟨w.heap.size + 2, 7, none⟩ = some (.int .i64 mm) := sJ.nod.cell 7; have n8 : wq.cell? ⟨w.heap.size + 2, 8, none⟩ = some (.int .i64 M) := sJ.nod.cell 8; have n9 : wq.cell? ⟨w.heap.size + 2, 9, none⟩ = some (.int .i64 xn) := sJ.nod.cell 9; go_simp); (try rfl))
     refine tq 1 ?_
     refine tq 2 ?_
     refine tq 3 ?_ (hy := by (intro wq qi; obtain ⟨sJ, sW⟩ := qi; have n5 : wq.cell? ⟨w.heap.size + 2, 5, none⟩ = some (.int .i64 (a : Int)) := sJ.nod.cell 5; go_simp); (try rfl))
     refine tq 4 ?_
     refine tq 5 ?_ (hy := by (intro wq qi; obtain ⟨sJ, sW⟩ := qi; have u0 := (sW.tabR HGL.out.1).top a HA.out.lt; go_simp); (try rfl))
     refine tq 6 ?_
     refine zU 7 fun K hK => ?_
     go_simp
     have Zo := qe
     obtain ⟨sJ, sW⟩ := Zo
     refine (VP.out _ sW).mono ?_
     rintro e w6 ⟨⟨b6, R6, F6, rfl, hG6, _, hF6⟩, jY⟩
     have Ya := ξ (sJ.below jY)
     have HW6 := ξ (sW.below jY)
     have HMG : Hid (qa8 Z w6 b6 (j + 3) j fA mm M) := ξ (Or.inr ⟨rfl, R6, F6, hG6, fun q k fu e he hk hq hfu => by
      rw [hF6 q k (by omega) hk]
      exact qdw (Zm.free HA.out.1 HGL.out.1) hj (j + 2 - q) fu k q e he hk (by omega) hfu⟩)
     refine hK.out _ _ ?_ (fun vL => ?_)
     ·(try dsimp only); exact ⟨Ya.out, HW6.out⟩
     clear hK K sJ sW hF6 hG6 jY qe
     (try simp only [Act.put, zm])
     refine tq 8 ?_
     refine wpAnyH_done (by kernel_rfl) ?_ _
     refine NoPanic.normal ?_
     have qh := HTI.out (j - i) i j 0 c b6 (j + 3) (j + 3) w6 HW6.out HMG.out qB kh hj (Nat.zero_le _) (by omega)
     unfold qk at qh
     have qp := ξ qh
     clear qh HTI n0 n0'
     have k_ := Ya.out.had.ten
     go_wp2_with fail
     refine qp.out.mono ?_
     rintro e w7 ⟨⟨d2, R2, rfl, WC, QY⟩, hB7⟩
     unfold qk
     have XM := ξ (Ya.out.below hB7)
     have vC := ξ (ζ WC QY)
     clear WC QY hB7 k_
     obtain ⟨V0, qT⟩ := (XM.out).res
     have r_ := qT.rf10
     have za := ξ (qV qT d2)
     have qE := ξ ((XM.out).put d2)
     clear qT
     go_wp2
     refine bodyPost_ret (v := .tuple #[.agg (cH d2), .bool R2]) (by simp [results, results66, go_sem, za.out]) rfl ?_
     exact Q4 qE.out.bel (by rw [HF.out]; exact vC.out.1) (by rw [HF.out]; exact vC.out.2)
   ·(have hs := VW.out; simp only at ks; omega)
   ·(try simp only at ks)
    subst ks
    (try simp only at hg)
    subst hg
    have HF := ξ (vZ.out.trans (hf i j c qB kh hj))
    clear hf
    have Qt : ∀ a b, c g = some (a, b) → a ≤ b ∧ b ≤ 999999999 := fun a b e => by have := qB g a b e; omega
    obtain ⟨y, hy⟩ : ∃ y, y = qj (c g) := ⟨_, rfl⟩
    obtain ⟨R, hR⟩ : ∃ R, R = (c g).isSome := ⟨_, rfl⟩
    have HMY : Hid (∀ W, Calls prog 70 #[y] W fun e w' => e = .returned (.bool R) ∧ w' = W) := ξ (fun W => by rw [hy, hR]; exact qf2 (c g) Qt W)
    have HYG : Hid (∀ W, qm W w.heap.size 10 30 (fun g => qj (c g)) → W.cell? ⟨w.heap.size, g, none⟩ = some y) := ξ (fun W h => by rw [hy]; exact h.cell g (by omega))
    have hgi : (g : Int) < 10 := by omega
    have HR := ξ hR
    have HY := ξ hy
    clear hR hy Qt k_ n0 n1 n2 n3 n4 n5 n6 n7 n8 n9
    have n0 : W3.cell? ⟨w.heap.size + 2, 0, none⟩ = some (.int .i64 8) := kM.out.nod.cell 0
    cases R with
    | false =>
     go_wp2_with fail
     refine wp_region_noPanic ?_
     refine wp_region_held_drew (S := fun w' => j8 w w' c ⟨8, w0, w1, w2, w3, xa, xb, mm, M, (g : Int)⟩) (by kernel_rfl) ?_ (fun qe => ?_)
     ·(try dsimp only); exact kM.out.drew
     refine tq 0 ?_ (hy := by (intro wq qi; have k_ := qi.had.ten; go_simp); (try rfl))
     refine tq 1 ?_
     refine tq 2 ?_ (hy := by (intro wq qi; have n9 : wq.cell? ⟨w.heap.size + 2, 9, none⟩ = some (.int .i64 (g : Int)) := qi.nod.cell 9; go_simp); (try rfl))
     refine tq 3 ?_
     refine tq 4 ?_ (hy := by (intro wq qi; have hyg := HYG.out wq qi.had; go_simp); (try rfl))
     refine zU 5 fun K hK => ?_
     go_simp
     have Zo := qe
     refine (HMY.out _).mono ?_
     rintro e w7 ⟨rfl, hw7⟩
     obtain rfl := hw7
     refine hK.out _ _ ?_ (fun qe => ?_)
     ·(try dsimp only); exact Zo
     clear hK K Zo
     (try simp only [Act.put, zm])
     refine tq 6 ?_
     refine tv 7 ?_
     refine tv 8 ?_
     refine tv 9 ?_
     refine tv 10 ?_
     refine tv 11 ?_
     refine tv 12 ?_
     refine tv 13 ?_
     refine tv 14 ?_
     refine tv 15 ?_
     refine tv 16 ?_
     refine tv 17 ?_
     refine tq 18 ?_
     refine zU 19 fun K hK => ?_
     obtain ⟨V0, qT⟩ := (kM.out).res
     have r_ := qT.rf10
     have za := ξ (qV qT c)
     have qE := ξ ((kM.out).put c)
     clear qT
     go_simp
     refine hK.out _ _ ?_ (fun qe => ?_)
     ·(try dsimp only); exact qE.out.drew
     clear hK K
     (try simp only [Act.put, zm])
     refine tq 20 ?_
     refine wpAnyH_done (by kernel_rfl) ?_ _
     refine NoPanic.normal ?_
     go_wp2
     refine bodyPost_ret (v := .tuple #[.agg (cH c), .bool false]) (by simp [results, results66, go_sem, za.out]) rfl ?_
     exact zY qe.bel (by rw [HF.out, if_neg (fun h => by have := HR.out; rw [h.1] at this; cases this)])
    | true =>
     obtain ⟨a, b, Kq⟩ : ∃ a b, c g = some (a, b) := by
      have := HR.out
      cases hq : c g with
      | none => rw [hq] at this; cases this
      | some q => exact ⟨q.1, q.2, rfl⟩
     have h12 := qB g a b Kq
     obtain ⟨A, hA⟩ : ∃ A : ByteArray, A = ⟨(ZW Z.s (c g)).toArray⟩ := ⟨_, rfl⟩
     obtain ⟨B, hB⟩ : ∃ B : ByteArray, B = ⟨((Z.s.drop i).take (j - i)).toArray⟩ := ⟨_, rfl⟩
     have HCT : Hid (∀ W, Calls prog 39 #[.string ⟨Z.s.toArray⟩, y] W fun e w' => e = .returned (.string A) ∧ w' = W) := ξ (fun W => by
      rw [HY.out, hA, Kq]; exact qaa Z.s (by omega) a b h12.1 h12.2 W)
     have HSL : Hid (∀ W, (Instr.slice 9 (.string ⟨Z.s.toArray⟩) (some (.int .i64 (i : Int))) (some (.int .i64 (j : Int))) none).run prog W = .ok (.string B) W) := ξ (fun W => by rw [hB]; exact qk6 Z.s i j kh hj W)
     obtain ⟨V, hV⟩ : ∃ V, V = decide ((c g).isSome = true ∧ ZW Z.s (c g) = (Z.s.drop i).take (j - i)) := ⟨_, rfl⟩
     have hVe : V = decide (ZW Z.s (c g) = (Z.s.drop i).take (j - i)) := by
      rw [hV, decide_eq_decide]; exact ⟨fun h => h.2, fun h => ⟨HR.out.symm, h⟩⟩
     have eq1 : (A.toList == B.toList) = V := by
      rw [hVe, hA, hB, Bool.eq_iff_iff, beq_iff_eq, decide_eq_true_iff, ByteArray.toList_eq, ByteArray.toList_eq]
      first | done | simp
     have HV := ξ hV
     clear hV hVe hA hB Kq h12
     go_wp2_with fail
     refine wp_region_noPanic ?_
     refine wp_region_held_drew (S := fun w' => j8 w w' c ⟨8, w0, w1, w2, w3, xa, xb, mm, M, (g : Int)⟩) (by kernel_rfl) ?_ (fun qe => ?_)
     ·(try dsimp only); exact kM.out.drew
     refine tq 0 ?_ (hy := by (intro wq qi; have k_ := qi.had.ten; go_simp); (try rfl))
     refine tq 1 ?_
     refine tq 2 ?_ (hy := by (intro wq qi; have n9 : wq.cell? ⟨w.heap.size + 2, 9, none⟩ = some (.int .i64 (g : Int)) := qi.nod.cell 9; go_simp); (try rfl))
     refine tq 3 ?_
     refine tq 4 ?_ (hy := by (intro wq qi; have hyg := HYG.out wq qi.had; go_simp); (try rfl))
     refine zU 5 fun K hK => ?_
     go_simp
     have Zo := qe
     refine (HMY.out _).mono ?_
     rintro e w7 ⟨rfl, hw7⟩
     obtain rfl := hw7
     refine hK.out _ _ ?_ (fun qe => ?_)
     ·(try dsimp only); exact Zo
     clear hK K Zo
     (try simp only [Act.put, zm])
     refine tq 6 ?_
     refine tq 7 ?_
     refine tq 8 ?_
     refine tq 9 ?_ (hy := by (intro wq qi; have n9 : wq.cell? ⟨w.heap.size + 2, 9, none⟩ = some (.int .i64 (g : Int)) := qi.nod.cell 9; go_simp); (try rfl))
     refine tq 13 ?_
     refine tq 14 ?_
     refine tq 15 ?_
     refine wpAnyH_ready (rs := [10, 16]) (by kernel_rfl) (by simp) ?_
     refine AllReadyH.cons rfl (fun K hK => ?_) (AllReadyH.cons rfl (fun K hK => ?_) AllReadyH.nil)
     focus
      go_simp
      refine hK.out _ _ ?_ (fun qe => ?_)
      ·(try dsimp only); exact qe
      clear hK K
      (try simp only [Act.put, zm])
      refine tq 11 ?_ (hy := by (intro wq qi; have hyg := HYG.out wq qi.had; go_simp); (try rfl))
      refine wpAnyH_ready (rs := [12, 16]) (by kernel_rfl) (by simp) ?_
      refine AllReadyH.cons rfl (fun K hK => ?_) (AllReadyH.cons rfl (fun K hK => ?_) AllReadyH.nil)
      focus
       go_simp
       have Zo := qe
       refine (HCT.out _).mono ?_
       rintro e w7 ⟨rfl, hw7⟩
       obtain rfl := hw7
       refine hK.out _ _ ?_ (fun qe => ?_)
       ·(try dsimp only); exact Zo
       clear hK K Zo
       (try simp only [Act.put, zm])
       refine wpAnyH_ready (rs := [16, 19]) (by kernel_rfl) (by simp) ?_
       refine AllReadyH.cons rfl (fun K hK => ?_) (AllReadyH.cons rfl (fun K hK => ?_) AllReadyH.nil)
       focus
        have jp := HSL.out
        go_simp
        clear jp
        refine hK.out _ _ ?_ (fun qe => ?_)
        ·(try dsimp only); exact qe
        clear hK K
        (try simp only [Act.put, zm])
        refine tq 17 ?_
        refine tq 18 ?_
        refine zU 19 fun K hK => ?_
        obtain ⟨V0, qT⟩ := (kM.out).res
        have r_ := qT.rf10
        have za := ξ (qV qT c)
        have qE := ξ ((kM.out).put c)
        clear qT
        go_simp
        refine hK.out _ _ ?_ (fun qe => ?_)
        ·(try dsimp only); exact qE.out.drew
        clear hK K
        (try simp only [Act.put, zm])
       rotate_left
       focus
        obtain ⟨V0, qT⟩ := (kM.out).res
        have r_ := qT.rf10
        have za := ξ (qV qT c)
        have qE := ξ ((kM.out).put c)
        clear qT
        go_simp
        refine hK.out _ _ ?_ (fun qe => ?_)
        ·(try dsimp only); exact qE.out.drew
        clear hK K
        (try simp only [Act.put, zm])
        refine zU 16 fun K hK => ?_
        have jp := HSL.out
        go_simp
        clear jp
        refine hK.out _ _ ?_ (fun qe => ?_)
        ·(try dsimp only); exact qe
        clear hK K
        (try simp only [Act.put, zm])
        refine tq 17 ?_
        refine tq 18 ?_
       rotate_left
      rotate_left
      rotate_left
      focus
       have jp := HSL.out
       go_simp
       clear jp
       refine hK.out _ _ ?_ (fun qe => ?_)
       ·(try dsimp only); exact qe
       clear hK K
       (try simp only [Act.put, zm])
       refine zU 12 fun K hK => ?_
       go_simp
       have Zo := qe
       refine (HCT.out _).mono ?_
       rintro e w7 ⟨rfl, hw7⟩
       obtain rfl := hw7
       refine hK.out _ _ ?_ (fun qe => ?_)
       ·(try dsimp only); exact Zo
       clear hK K Zo
       (try simp only [Act.put, zm])
       refine tq 17 ?_
       refine tq 18 ?_
       refine zU 19 fun K hK => ?_
       obtain ⟨V0, qT⟩ := (kM.out).res
       have r_ := qT.rf10
       have za := ξ (qV qT c)
       have qE := ξ ((kM.out).put c)
       clear qT
       go_simp
       refine hK.out _ _ ?_ (fun qe => ?_)
       ·(try dsimp only); exact qE.out.drew
       clear hK K
       (try simp only [Act.put, zm])
      rotate_left
     rotate_left
     rotate_left
     rotate_left
     focus
      have jp := HSL.out
      go_simp
      clear jp
      refine hK.out _ _ ?_ (fun qe => ?_)
      ·(try dsimp only); exact qe
      clear hK K
      (try simp only [Act.put, zm])
      refine zU 10 fun K hK => ?_
      go_simp
      refine hK.out _ _ ?_ (fun qe => ?_)
      ·(try dsimp only); exact qe
      clear hK K
      (try simp only [Act.put, zm])
      refine tq 11 ?_ (hy := by (intro wq qi; have hyg := HYG.out wq qi.had; go_simp); (try rfl))
      refine zU 12 fun K hK => ?_
      go_simp
      have Zo := qe
      refine (HCT.out _).mono ?_
      rintro e w7 ⟨rfl, hw7⟩
      obtain rfl := hw7
      refine hK.out _ _ ?_ (fun qe => ?_)
      ·(try dsimp only); exact Zo
      clear hK K Zo
      (try simp only [Act.put, zm])
      refine tq 17 ?_
      refine tq 18 ?_
      refine zU 19 fun K hK => ?_
      obtain ⟨V0, qT⟩ := (kM.out).res
      have r_ := qT.rf10
      have za := ξ (qV qT c)
      have qE := ξ ((kM.out).put c)
      clear qT
      go_simp
      refine hK.out _ _ ?_ (fun qe => ?_)
      ·(try dsimp only); exact qE.out.drew
      clear hK K
      (try simp only [Act.put, zm])
     rotate_left
     all_goals (
      refine tq 20 ?_
      refine wpAnyH_done (by kernel_rfl) ?_ _
      refine NoPanic.normal ?_
      go_wp2
      refine bodyPost_ret (v := .tuple #[.agg (cH c), .bool V]) (by simp [results, results66, go_sem, za.out]) rfl ?_
      exact ZZ qe.bel HF.out HV.out)
theorem Q6 (Z : FZ) (hZ : Z.Ok) (p : Nat) (kd : Int) (w0 w1 w2 w3 : Nat) (xa xb mm M xn : Int) (hx : Z.xs[p]? = some ⟨kd, w0, w1, w2, w3, xa, xb, mm, M, xn⟩) (f : Nat → Nat → Cp → Option Cp) (ht : qba Z p f) (hk : qf1 Z p ⟨kd, w0, w1, w2, w3, xa, xb, mm, M, xn⟩ f) : qf3 Z p f := by
 have h := hk
 rcases h with ⟨e, _⟩ | ⟨e, _⟩ | ⟨e, _⟩ | ⟨e, _⟩ | ⟨e, _⟩ | ⟨e, _⟩ | ⟨e, _⟩ | ⟨e, _⟩ | ⟨e, _⟩ <;> (try simp only at e)
 ·exact jX Z hZ p kd w0 w1 w2 w3 xa xb mm M xn hx f ht (by omega) hk
 ·exact ZK Z hZ p kd w0 w1 w2 w3 xa xb mm M xn hx f ht (by omega) hk
 ·exact jX Z hZ p kd w0 w1 w2 w3 xa xb mm M xn hx f ht (by omega) hk
 ·exact jX Z hZ p kd w0 w1 w2 w3 xa xb mm M xn hx f ht (by omega) hk
 ·exact jX Z hZ p kd w0 w1 w2 w3 xa xb mm M xn hx f ht (by omega) hk
 ·exact jX Z hZ p kd w0 w1 w2 w3 xa xb mm M xn hx f ht (by omega) hk
 ·exact ZK Z hZ p kd w0 w1 w2 w3 xa xb mm M xn hx f ht (by omega) hk
 ·exact jX Z hZ p kd w0 w1 w2 w3 xa xb mm M xn hx f ht (by omega) hk
 ·exact ZK Z hZ p kd w0 w1 w2 w3 xa xb mm M xn hx f ht (by omega) hk
end Go.Proofs.YtjgegohidhdbpaaGreatDoor
