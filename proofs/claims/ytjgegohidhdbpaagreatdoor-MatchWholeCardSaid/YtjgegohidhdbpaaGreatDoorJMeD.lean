/- The document's own times, walked. -/
import Derived.Test.YtjgegohidhdbpaaGreatDoorJMeK
import Derived.Test.YtjgegohidhdbpaaGreatDoorJMeL
import Derived.Test.YtjgegohidhdbpaaGreatDoorJMbJ
open Go.Proofs.Tryz
set_option linter.unusedVariables false
set_option linter.unusedSimpArgs false
set_option maxRecDepth 100000
set_option maxHeartbeats 40000000
namespace Go.Proofs.YtjgegohidhdbpaaGreatDoor
open Go.RowKit
theorem JH (Z : FZ) (hZ : Z.Ok) (p : Nat) (hp : p < Z.len) (kd : Int) (w0 w1 w2 w3 : Nat) (a : Nat) (xb mm M xn : Int) (hx : Z.xs[p]? = some ⟨kd, w0, w1, w2, w3, (a : Int), xb, mm, M, xn⟩) (A : Nat → Nat → Cp → Option Cp) (hA : JG Z a A) (fu : Nat) (hrec : ∀ f, fu = f + 1 → qfX Z p A mm M f) : qfX Z p A mm M fu := by
 intro i j d c mb ml mc w hW hMG qB kh hj hdi hfu
 have kR : (⟨Z.s.toArray⟩ : ByteArray).size = Z.s.length := by simp [ByteArray.size]
 obtain ⟨ans, QG⟩ : ∃ o, o = j7 A mm M fu i j d c := ⟨_, rfl⟩
 rw [← QG]
 have hpi : (p : Int) < (Z.len : Int) := by omega
 have vZ := ξ QG
 have HX := ξ hx
 have HA := ξ hA
 have HZ := ξ hZ
 have HREC := ξ hrec
 have HFU := ξ hfu
 have h90 := hZ.s90
 have Kx := hZ.l
 have zj : Below w.heap.size w ((w.alloc (.cells (cH c) 30)).alloc (.cells cZ 30)) := (Xc.new w c).bel
 have dd := (hW.below zj).nodes.cell p _ hx
 have g_ := zB dd
 have kM := ξ (j8.new w c ⟨kd, w0, w1, w2, w3, (a : Int), xb, mm, M, xn⟩)
 have qQ := zj.alloc zj.size (.cells (Nd.cells ⟨kd, w0, w1, w2, w3, (a : Int), xb, mm, M, xn⟩) 73)
 have Xd := ξ (hW.below qQ)
 have HM3 := ξ (hMG.below qQ)
 unfold Nd.cells at kM Xd HM3
 clear dd zj qQ hW hMG QG hx hA hZ hrec hfu
 unfold qk
 go_enter func109, ntmps109
 go_upto_region 2 with fail
 obtain ⟨W3, hW3⟩ : ∃ W3, W3 = (((w.alloc (.cells (cH c) 30)).alloc (.cells cZ 30)).alloc (.cells #[.int .i64 kd, .int .u64 w0, .int .u64 w1, .int .u64 w2, .int .u64 w3, .int .i64 (a : Int), .int .i64 xb, .int .i64 mm, .int .i64 M, .int .i64 xn] 73)) := ⟨_, rfl⟩
 (try simp only [World.size_alloc])
 rw [← hW3] at kM Xd HM3 ⊢
 clear hW3 g_
 have k_ := (kM.out).had.ten
 have n5 : W3.cell? ⟨w.heap.size + 1 + 1, 5, none⟩ = some (.int .i64 (a : Int)) := (kM.out).nod.cell 5
 have n7 : W3.cell? ⟨w.heap.size + 1 + 1, 7, none⟩ = some (.int .i64 mm) := (kM.out).nod.cell 7
 have n8 : W3.cell? ⟨w.heap.size + 1 + 1, 8, none⟩ = some (.int .i64 M) := (kM.out).nod.cell 8
 by_cases q : i = j
 ·have e1 : ((i : Int) == (j : Int)) = true := by rw [beq_iff_eq]; omega
  by_cases q2 : mm ≤ (d : Int)
  ·have JI : Hid (ans = some c) := ξ (by rw [vZ.out]; unfold j7; rw [if_pos ⟨q, q2⟩])
   clear q
   obtain ⟨V0, qT⟩ := (kM.out).res
   have r_ := qT.rf10
   have za := ξ (qV qT c)
   have qE := ξ ((kM.out).put c)
   clear qT
   go_wp2
   refine bodyPost_ret (v := .tuple #[.agg (cH c), .bool true]) (by simp [results, results109, go_sem, za.out]) rfl ?_
   exact vF qE.out.bel JI.out
  ·have JI : Hid (ans = A j j c) := ξ (by rw [vZ.out]; unfold j7; rw [if_neg (fun h => q2 h.2), if_pos q])
   have qh := HA.out.call j j c W3 Xd.out qB (Nat.le_refl _) hj
   unfold qk at qh
   have qp := ξ qh
   clear qh q
   go_wp2_with fail
   refine qp.out.mono ?_
   rintro e w6 ⟨⟨d2, R2, rfl, WC, QY⟩, jY⟩
   unfold qk
   have Ya := ξ (kM.out.below jY)
   have vC := ξ (ζ WC QY)
   clear WC QY jY k_
   obtain ⟨V0, qT⟩ := (Ya.out).res
   have r_ := qT.rf10
   have za := ξ (qV qT d2)
   have qE := ξ ((Ya.out).put d2)
   clear qT
   go_wp2
   refine bodyPost_ret (v := .tuple #[.agg (cH d2), .bool R2]) (by simp [results, results109, go_sem, za.out]) rfl ?_
   exact Q4 qE.out.bel (by rw [JI.out]; exact vC.out.1) (by rw [JI.out]; exact vC.out.2)
 ·have e1 : ((i : Int) == (j : Int)) = false := by rw [beq_eq_false_iff_ne]; omega
  have hlt0 : i < j := by omega
  obtain ⟨f, rfl⟩ : ∃ f, fu = f + 1 := ⟨fu - 1, by have := HFU.out; omega⟩
  obtain ⟨nt, Vz⟩ : ∃ nt : Bool, nt = decide (M ≠ -1 ∧ M ≤ (d : Int)) := ⟨_, rfl⟩
  obtain ⟨Fk, VN⟩ : ∃ Fk : Nat → Option Cp, Fk = fun k => (A i k c).bind (j7 A mm M f k j (d + 1)) := ⟨_, rfl⟩
  have HN1 : Hid (nt = true → ans = none) := ξ (fun e => by
   rw [Vz] at e
   rw [vZ.out, Q5, if_neg (fun h => q h.1), if_neg q, if_pos (of_decide_eq_true e)])
  have HN2 : Hid (nt = false → ans = jy (i + 1) Fk j) := ξ (fun e => by
   rw [Vz] at e
   rw [vZ.out, Q5, if_neg (fun h => q h.1), if_neg q, if_neg (of_decide_eq_false e), VN])
  have HFk := ξ VN
  have KZ := ξ Vz
  have HTM := ξ (HREC.out f rfl)
  clear VN Vz q vZ HREC
  go_upto_region 6 with fail
  go_cut [62] (fun v wx => v = .bool nt ∧ wx = W3)
  case first =>
   by_cases m1 : M = -1
   ·obtain rfl : false = nt := by rw [KZ.out]; exact (decide_eq_false (fun h => h.1 m1)).symm
    have c1 : (M != -1) = false := by rw [m1]; rfl
    clear m1
    go_wp2_with fail
    go_meet
    exact ⟨rfl, rfl⟩
   ·have c1 : (M != -1) = true := by simpa using m1
    have HV : Hid (nt = decide (M ≤ (d : Int))) := ξ (by rw [KZ.out, decide_eq_decide]; exact ⟨fun h => h.2, fun h => ⟨m1, h⟩⟩)
    clear m1
    go_wp2_with fail
    go_meet
    exact ⟨by rw [HV.out], rfl⟩
  case rest =>
   obtain ⟨rfl, hwc⟩ := hcut
   subst hwc
   cases nt with
   | true =>
    have JI := ξ (HN1.out rfl)
    obtain ⟨V0, qT⟩ := (kM.out).res
    have r_ := qT.rf10
    have za := ξ (qV qT c)
    have qE := ξ ((kM.out).put c)
    clear qT
    go_wp2
    refine bodyPost_ret (v := .tuple #[.agg (cH c), .bool false]) (by simp [results, results109, go_sem, za.out]) rfl ?_
    exact zY qE.out.bel JI.out
   | false =>
    have HF := ξ (HN2.out rfl)
    clear HN1 HN2 KZ k_ n5 n7 n8
    go_wp2
    go_loopw [21] (fun kv wr => ∃ m : Nat, i ≤ m ∧ m ≤ j ∧ kv = .int .i64 (m : Int) ∧ j8 w wr c ⟨kd, w0, w1, w2, w3, (a : Int), xb, mm, M, xn⟩ ∧ Zm Z wr ∧ qa8 Z wr mb ml j A mm M ∧ ∀ k, m < k → k ≤ j → Fk k = none) (fun kv _ => (RowKit.intOf kv).toNat)
    case atStart => exact ⟨j, kh, Nat.le_refl _, rfl, kM.out, Xd.out, HM3.out, fun k h1 h2 => absurd h1 (by omega)⟩
    case round =>
     obtain ⟨k, hik, Jl, rfl, hJ, hWr, hMr, hFn⟩ := hrel
     have HJ := ξ hJ
     have HWr := ξ hWr
     have HMr := ξ hMr
     have HFN := ξ hFn
     clear hJ hWr hMr hFn
     by_cases zb : i < k
     ·have ZX : (i : Int) < (k : Int) := by omega
      have kw : IntKind.i64.wrap ((k : Int) - 1) = (k : Int) - 1 := by simp [IntKind.wrap, IntKind.signed, IntKind.bits]; omega
      have dw : IntKind.i64.wrap ((d : Int) + 1) = (d : Int) + 1 := by simp [IntKind.wrap, IntKind.signed, IntKind.bits]; omega
      have HKC : Hid (((k - 1 : Nat) : Int) = (k : Int) - 1) := ξ (by omega)
      have hfuk : j ≤ f + k := by have := HFU.out; omega
      obtain ⟨nt, Vz⟩ : ∃ nt : Bool, (nt = true → Fk k = none) ∧ ((ml = 0 ∧ nt = false) ∨ (ml = j + 3 ∧ ∃ R V, wr.cell? ⟨mb, d + 1, none⟩ = some (.slice (some ⟨R, 0, none⟩) (j + 1) (j + 1)) ∧ wr.cell? ⟨R, k, none⟩ = some (.bool V) ∧ nt = !V)) := by
       rcases HMr.out with h0 | ⟨h1, R, F, hg, hF⟩
       ·exact ⟨false, (fun e => by cases e), Or.inl ⟨h0, rfl⟩⟩
       ·refine ⟨!F (d + 1) k, fun e => ?_, Or.inr ⟨h1, R (d + 1), F (d + 1) k, hg.top.cell (d + 1) (by omega), (hg.row (d + 1) (by omega)).cell k (by omega), rfl⟩⟩
        rw [HFk.out]
        show (A i k c).bind _ = none
        cases ZB : A i k c with
        | none => rfl
        | some e' =>
         have h2 := hF (d + 1) k f e' (HA.out.cap i k c e' qB hik (by omega) ZB) Jl (by omega) hfuk
         rw [Bool.not_eq_true'] at e
         rw [e] at h2
         show j7 A mm M f k j (d + 1) e' = none
         cases ht : j7 A mm M f k j (d + 1) e' with
         | none => rfl
         | some e'' => rw [ht] at h2; cases h2
      have KZ := ξ Vz
      clear Vz
      have n5 : wr.cell? ⟨w.heap.size + 1 + 1, 5, none⟩ = some (.int .i64 (a : Int)) := HJ.out.nod.cell 5
      have k_ := HJ.out.had.ten
      go_upto_region 11 with fail
      go_cut [83] (fun v wx => v = .bool nt ∧ wx = wr)
      case first =>
       rcases KZ.out.2 with ⟨h0, h1⟩ | ⟨h0, R, V, u0, u1, h1⟩
       ·obtain rfl : false = nt := h1.symm
        have l0 : ¬ (0 : Int) < (ml : Int) := by omega
        clear h0
        go_wp2_with fail
        go_meet
        exact ⟨rfl, rfl⟩
       ·have HV := ξ h1
        have l0 : (0 : Int) < (ml : Int) := by omega
        have l1 : (d : Int) + 1 < (ml : Int) := by omega
        have l2 : (k : Int) < (j : Int) + 1 := by omega
        clear h0 h1
        go_wp2_with fail
        go_meet
        exact ⟨by rw [HV.out], rfl⟩
      case rest =>
       obtain ⟨rfl, hwc⟩ := hcut
       subst hwc
       cases nt with
       | true =>
        have HF0 := ξ (KZ.out.1 rfl)
        go_wp2
        go_roundw
        case rel => exact ⟨k - 1, by omega, by omega, by rw [HKC.out], HJ.out, HWr.out, HMr.out, fun k' h1 h2 => by
         by_cases e : k' = k
         ·subst e; exact HF0.out
         ·exact HFN.out k' (by omega) h2⟩
        case measure => (simp [RowKit.intOf]) <;> omega
       | false =>
        clear KZ
        have qh := HA.out.call i k c wc HWr.out qB hik (by omega)
        unfold qk at qh
        have qp := ξ qh
        clear qh
        go_wp2_with fail
        refine qp.out.mono ?_
        rintro e w5 ⟨⟨d1, R, rfl, hR, hd⟩, ki⟩
        unfold qk
        have qfY := ki.alloc ki.size (.cells (cH d1) 30)
        have XN := ξ (HJ.out.below qfY)
        have QH := ξ (HWr.out.below qfY)
        have HM5 := ξ (HMr.out.below qfY)
        have HR := ξ (ζ hR hd)
        clear hR hd ki qfY k_ n5
        cases R with
        | false =>
         have HF0 : Hid (Fk k = none) := ξ (by
          rw [HFk.out]
          show (A i k c).bind _ = none
          cases ZB : A i k c with
          | none => rfl
          | some d => have := HR.out.1; rw [ZB] at this; cases this)
         go_wp2
         go_roundw
         case rel => exact ⟨k - 1, by omega, by omega, by rw [HKC.out], XN.out, QH.out, HM5.out, fun k' h1 h2 => by
          by_cases e : k' = k
          ·subst e; exact HF0.out
          ·exact HFN.out k' (by omega) h2⟩
         case measure => (simp [RowKit.intOf]) <;> omega
        | true =>
         have ZB : A i k c = some d1 := by
          cases ZB : A i k c with
          | none => have := HR.out.1; rw [ZB] at this; cases this
          | some d' => rw [HR.out.2 d' ZB]
         have HFA : Hid (Fk k = j7 A mm M f k j (d + 1) d1) := ξ (by rw [HFk.out]; show (A i k c).bind _ = _; rw [ZB]; rfl)
         have qh := HTM.out k j (d + 1) d1 mb ml mc (w5.alloc (.cells (cH d1) 30)) QH.out HM5.out (HA.out.cap i k c d1 qB hik (by omega) ZB) Jl hj (by omega) hfuk
         unfold qk at qh
         rw [show ((d + 1 : Nat) : Int) = (d : Int) + 1 from rfl] at qh
         have JJ := ξ qh
         clear qh ZB
         go_wp2_with fail
         refine JJ.out.mono ?_
         rintro e w6 ⟨⟨d2, R2, rfl, WC, QY⟩, jY⟩
         unfold qk
         have qfZ := jY.alloc jY.size (.cells (cH d2) 30)
         have Ya := ξ (XN.out.below qfZ)
         have HW6 := ξ (QH.out.below qfZ)
         have HM6 := ξ (HM5.out.below qfZ)
         have vC := ξ (ζ WC QY)
         clear WC QY jY qfZ
         cases R2 with
         | false =>
          have HF0 : Hid (Fk k = none) := ξ (by
           rw [HFA.out]
           cases zJ : j7 A mm M f k j (d + 1) d1 with
           | none => rfl
           | some d => have := vC.out.1; rw [zJ] at this; cases this)
          go_wp2
          go_roundw
          case rel => exact ⟨k - 1, by omega, by omega, by rw [HKC.out], Ya.out, HW6.out, HM6.out, fun k' h1 h2 => by
           by_cases e : k' = k
           ·subst e; exact HF0.out
           ·exact HFN.out k' (by omega) h2⟩
          case measure => (simp [RowKit.intOf]) <;> omega
         | true =>
          have JI : Hid (ans = some d2) := ξ (by
           rw [HF.out]
           refine KH (show i + 1 ≤ k by omega) ?_ j Jl (fun k' h1 h2 => HFN.out k' h1 h2)
           rw [HFA.out]
           cases zJ : j7 A mm M f k j (d + 1) d1 with
           | none => have := vC.out.1; rw [zJ] at this; cases this
           | some d' => rw [vC.out.2 d' zJ])
          obtain ⟨q0, q1, q2, q3, q4, q5, q6, q7, q8, q9⟩ := (qm.new w6 10 30 (fun g => qj (d2 g))).ten
          obtain ⟨V0, qT⟩ := (Ya.out).res
          have r_ := qT.rf10
          have za := ξ (qV qT d2)
          have qE := ξ ((Ya.out).put d2)
          clear qT
          go_wp2
          refine bodyPost_ret (v := .tuple #[.agg (cH d2), .bool true]) (by simp [results, results109, go_sem, za.out]) rfl ?_
          exact vF qE.out.bel JI.out
     ·obtain rfl : i = k := by omega
      have JI : Hid (ans = none) := ξ (by rw [HF.out]; exact JK j (fun k h1 h2 => HFN.out k (by omega) h2))
      have k_ := HJ.out.had.ten
      obtain ⟨V0, qT⟩ := (HJ.out).res
      have r_ := qT.rf10
      have za := ξ (qV qT c)
      have qE := ξ ((HJ.out).put c)
      clear qT
      go_wp2
      refine bodyPost_ret (v := .tuple #[.agg (cH c), .bool false]) (by simp [results, results109, go_sem, za.out]) rfl ?_
      exact zY qE.out.bel JI.out
theorem WD (Z : FZ) (hZ : Z.Ok) (p : Nat) (hp : p < Z.len) (kd : Int) (w0 w1 w2 w3 : Nat) (a : Nat) (xb mm M xn : Int) (hx : Z.xs[p]? = some ⟨kd, w0, w1, w2, w3, (a : Int), xb, mm, M, xn⟩) (A : Nat → Nat → Cp → Option Cp) (hA : JG Z a A) : ∀ fu, qfX Z p A mm M fu
 | 0 => JH Z hZ p hp kd w0 w1 w2 w3 a xb mm M xn hx A hA 0 (fun f h => by cases h)
 | fu + 1 => JH Z hZ p hp kd w0 w1 w2 w3 a xb mm M xn hx A hA (fu + 1) (fun f h => by
  obtain rfl : fu = f := by omega
  exact WD Z hZ p hp kd w0 w1 w2 w3 a xb mm M xn hx A hA fu)
open Go.Lib
theorem qf0 {s : List UInt8} {i j a b : Nat} (kh : i ≤ j) (hj : j ≤ s.length) (Kq : a ≤ b) (hb : b ≤ s.length) :
  ((if ((s.drop a).take (b - a)).isPrefixOf (s.drop i) then some (b - a) else none : Option Nat) = some (j - i)) ↔ (s.drop a).take (b - a) = (s.drop i).take (j - i) := by
 have l1 : ((s.drop a).take (b - a)).length = b - a := by rw [List.length_take, List.length_drop]; omega
 have l2 : ((s.drop i).take (j - i)).length = j - i := by rw [List.length_take, List.length_drop]; omega
 generalize (s.drop a).take (b - a) = P at l1 ⊢
 constructor
 ·intro h
  split at h
  ·rename_i hp
   have e := Option.some.inj h
   obtain ⟨r, hr⟩ := List.isPrefixOf_iff_prefix.1 hp
   rw [← hr, List.take_append_of_le_length (by omega), List.take_of_length_le (by omega)]
  ·cases h
 ·intro h
  have e : b - a = j - i := by rw [← l1, h, l2]
  rw [if_pos (List.isPrefixOf_iff_prefix.2 (by rw [h]; exact List.take_prefix _ _)), e]
theorem qiz (Z : FZ) (p : Nat) (x : Nd) (h : (T.leaf x).Ok) (hf : x.Fits) : qf1 Z p x (zh Z.s (.leaf x)) := by
 have hm := (vp _ h).1
 obtain ⟨hn, hk⟩ := h
 have e : ∀ i j c, zh Z.s (.leaf x) i j c = if (match zE Z.s x i c with | some w => decide (j = i + w) | none => false) = true then some c else none := fun i j c => by
  unfold zh qiA
  show (if (if x.kind = -1 then decide (i ≤ j) && decide (j ≤ Z.s.length) else match zE Z.s x i c with | some w => decide (j = i + w) | none => false) = true then some c else none) = _
  rw [if_neg (show ¬ x.kind = -1 by omega)]
 rcases hk with hk | hk | hk | hk | hk
 ·refine .inl ⟨hk, fun i j c => ?_⟩
  rw [e]
  unfold zE
  rw [if_pos hk]
  by_cases q : i = j
  ·subst q; simp
  ·rw [if_neg q, if_neg (by simp; omega)]
 ·refine .inr (.inl ⟨hk, hf, fun i j c => ?_⟩)
  rw [e]
  unfold zE
  rw [if_neg (show ¬ x.kind = 0 by omega), if_pos hk]
  cases Z.s[i]? with
  | none => simp
  | some b => cases hb : x.set b.toNat <;> simp [hb]
 ·refine .inr (.inr (.inl ⟨hk, fun i j c => ?_⟩))
  rw [e]
  unfold zE
  rw [if_neg (show ¬ x.kind = 0 by omega), if_neg (show ¬ x.kind = 1 by omega), if_pos hk]
  by_cases q : i = 0
  ·subst q; simp
  ·simp [q]
 ·refine .inr (.inr (.inr (.inl ⟨hk, fun i j c => ?_⟩)))
  rw [e]
  unfold zE
  rw [if_neg (show ¬ x.kind = 0 by omega), if_neg (show ¬ x.kind = 1 by omega), if_neg (show ¬ x.kind = 2 by omega), if_pos hk]
  by_cases q : i = Z.s.length
  ·subst q; simp
  ·simp [q]
 ·have h9 := hm hk
  refine .inr (.inr (.inr (.inr (.inr (.inr (.inr (.inr ⟨hk, x.n.toNat, by omega, by omega, fun i j c hc kh hj => ?_⟩)))))))
  rw [e]
  unfold zE
  rw [if_neg (show ¬ x.kind = 0 by omega), if_neg (show ¬ x.kind = 1 by omega), if_neg (show ¬ x.kind = 2 by omega), if_neg (show ¬ x.kind = 3 by omega), if_pos hk]
  cases hg : c x.n.toNat with
  | none => simp
  | some q =>
   obtain ⟨a, b⟩ := q
   have Kq := hc _ a b hg
   have hr := qf0 kh hj Kq.1 Kq.2
   simp only [Option.isSome_some, true_and]
   show (if (match (if ((Z.s.drop a).take (b - a)).isPrefixOf (Z.s.drop i) then some (b - a) else none : Option Nat) with | some w => decide (j = i + w) | none => false) = true then some c else none) = if (Z.s.drop a).take (b - a) = (Z.s.drop i).take (j - i) then some c else none
   generalize (if ((Z.s.drop a).take (b - a)).isPrefixOf (Z.s.drop i) then some (b - a) else none : Option Nat) = o at hr ⊢
   cases o with
   | none => rw [if_neg (by simp), if_neg (fun q => by cases hr.2 q)]
   | some w =>
    by_cases q : (Z.s.drop a).take (b - a) = (Z.s.drop i).take (j - i)
    ·have := Option.some.inj (hr.2 q)
     rw [if_pos q]
     exact if_pos (by simp; omega)
    ·rw [if_neg q]
     refine if_neg (fun h => q (hr.1 ?_))
     have := of_decide_eq_true h
     congr 1
     omega
theorem V9 (Z : FZ) (hZ : Z.Ok) (yN : ∀ (k : Nat) (x : Nd), Z.xs[k]? = some x → x.Fits) (hG : 0 < Z.gl → ∀ (k : Nat) (x : Nd), Z.xs[k]? = some x → ∀ i j, i ≤ j → j ≤ Z.s.length → Z.G k i j = zN Z.s Z.G x i j) :
  ∀ (t : T) (o : Nat), t.Ok → T.At (fun i => Z.xs[i]?) t o → (0 < Z.gl → t.refs = 0) → JG Z (o + t.size - 1) (zh Z.s t) := by
 have base : ∀ (t : T) (o : Nat), t.Ok → T.At (fun i => Z.xs[i]?) t o → (0 < Z.gl → t.refs = 0) → qba Z (o + t.size - 1) (zh Z.s t) := fun t o h ha hr => by
  have hm := vp t h
  refine ⟨fun i j c d hc kh hj e => ?_, fun hg i j c hc kh hj => ?_, ?_⟩
  ·rw [ju Z.s t hm.1 hm.2 i j c hc kh hj] at e
   split at e
   ·cases e; exact (zw Z.s t hm.1).leave_cap hc kh hj
   ·cases e
  ·exact (yx Z.s Z.xs Z.G (hG hg) t o hm.1 hm.2 (hr hg) h ha i j kh hj).trans ((vG Z.s t hm.1 hm.2 (hr hg) i j c hc kh hj).1.symm)
  ·have := (List.getElem?_eq_some_iff.1 ha.root).1
   rw [hZ.xl] at this
   exact this
 intro t
 induction t with
 | leaf x =>
  intro o h ha hr
  have hx : Z.xs[o]? = some x := ha
  have b := base _ o h ha hr
  have hk := qiz Z (o + (T.leaf x).size - 1) x h (yN o x hx)
  exact ⟨b, Q6 Z hZ o x.kind x.w0 x.w1 x.w2 x.w3 x.a x.b x.mn x.mx x.n hx _ b hk⟩
 | two k a b iha ihb =>
  intro o h ha hr
  have bs := base _ o h ha hr
  have vJ := ha.root
  have pa := a.size_pos
  have pb := b.size_pos
  have VO : 0 < Z.gl → a.refs = 0 ∧ b.refs = 0 := fun g => by have := hr g; simp only [T.refs] at this; omega
  have fa := iha o h.2.1 ha.1 (fun g => (VO g).1)
  have fb := ihb (o + a.size) h.2.2 ha.2.1 (fun g => (VO g).2)
  refine ⟨bs, Q6 Z hZ _ k 0 0 0 0 _ _ 0 0 0 vJ _ bs ?_⟩
  have e1 : (o : Int) + a.size - 1 = ((o + a.size - 1 : Nat) : Int) := by omega
  have e2 : (o : Int) + a.size + b.size - 1 = ((o + a.size + b.size - 1 : Nat) : Int) := by omega
  rcases h.1 with rfl | rfl
  ·exact .inr (.inr (.inr (.inr (.inl ⟨rfl, _, _, _, _, e1, e2, fa, fb, fun i j c => by rw [zh, if_pos rfl]⟩))))
  ·exact .inr (.inr (.inr (.inr (.inr (.inl ⟨rfl, _, _, _, _, e1, e2, fa, fb, fun i j c => by rw [zh, if_neg (by decide)]; rfl⟩)))))
 | times m M t ih =>
  intro o h ha hr
  have bs := base _ o h ha hr
  have vJ := ha.root
  have pt := t.size_pos
  have ft := ih o h.2 ha.1 hr
  have e1 : (o : Int) + t.size - 1 = ((o + t.size - 1 : Nat) : Int) := by omega
  have qiB : Z.xs[o + (T.times m M t).size - 1]? = some ⟨6, 0, 0, 0, 0, ((o + t.size - 1 : Nat) : Int), 0, m, M, 0⟩ := by rw [← e1]; exact vJ
  refine ⟨bs, Q6 Z hZ _ 6 0 0 0 0 _ 0 m M 0 vJ _ bs ?_⟩
  exact .inr (.inr (.inr (.inr (.inr (.inr (.inl ⟨rfl, yN _ _ vJ, _, _, e1, ft, WD Z hZ _ bs.lt 6 0 0 0 0 _ 0 m M 0 qiB _ ft, fun i j c => by rw [zh]⟩))))))
 | group n t ih =>
  intro o h ha hr
  have bs := base _ o h ha hr
  have vJ := ha.root
  have pt := t.size_pos
  have ft := ih o h.2 ha.1 hr
  have e1 : (o : Int) + t.size - 1 = ((o + t.size - 1 : Nat) : Int) := by omega
  have hn := of_decide_eq_true h.1
  refine ⟨bs, Q6 Z hZ _ 7 0 0 0 0 _ 0 0 0 n vJ _ bs ?_⟩
  exact .inr (.inr (.inr (.inr (.inr (.inr (.inr (.inl ⟨rfl, _, n.toNat, _, e1, by show n = ((n.toNat : Nat) : Int); omega, by omega, ft, fun i j c => by rw [zh]⟩)))))))
theorem QF (xs : List Nd) : ∀ (t : T) (o : Nat), t.Ok → T.At (fun i => xs[i]?) t o → t.refs = 0 → ∀ (k : Nat) (x : Nd), o ≤ k → k < o + t.size → xs[k]? = some x →
  ((x.kind = 0 ∨ x.kind = 1 ∨ x.kind = 2 ∨ x.kind = 3) ∨ ((x.kind = 4 ∨ x.kind = 5) ∧ ∃ a c : Nat, x.a = (a : Int) ∧ x.b = (c : Int) ∧ a < k ∧ c < k) ∨ ((x.kind = 6 ∨ x.kind = 7) ∧ ∃ a : Nat, x.a = (a : Int) ∧ a < k))
 | .leaf y, o, h, ha, hr, k, x, h1, h2, hx => by
  obtain rfl : k = o := by simp only [T.size] at h2; omega
  have hy : xs[k]? = some y := ha
  obtain rfl : y = x := Option.some.inj (hy.symm.trans hx)
  have := h.2
  have h8 : y.kind ≠ 8 := fun e => by simp only [T.refs, e, if_true] at hr; omega
  exact .inl (by omega)
 | .two q a b, o, h, ha, hr, k, x, h1, h2, hx => by
  have pa := a.size_pos
  have pb := b.size_pos
  simp only [T.size] at h2
  simp only [T.refs] at hr
  by_cases e1 : k < o + a.size
  ·exact QF xs a o h.2.1 ha.1 (by omega) k x h1 e1 hx
  ·by_cases e2 : k < o + a.size + b.size
   ·exact QF xs b (o + a.size) h.2.2 ha.2.1 (by omega) k x (by omega) e2 hx
   ·obtain rfl : k = o + a.size + b.size := by omega
    have hy : xs[o + a.size + b.size]? = some (T.root (.two q a b) o) := ha.2.2
    obtain rfl := Option.some.inj (hy.symm.trans hx)
    exact .inr (.inl ⟨h.1, o + a.size - 1, o + a.size + b.size - 1, by show (o : Int) + a.size - 1 = _; omega, by show (o : Int) + a.size + b.size - 1 = _; omega, by omega, by omega⟩)
 | .times m M t, o, h, ha, hr, k, x, h1, h2, hx => by
  have pt := t.size_pos
  simp only [T.size] at h2
  by_cases e1 : k < o + t.size
  ·exact QF xs t o h.2 ha.1 hr k x h1 e1 hx
  ·obtain rfl : k = o + t.size := by omega
   have hy : xs[o + t.size]? = some (T.root (.times m M t) o) := ha.2
   obtain rfl := Option.some.inj (hy.symm.trans hx)
   exact .inr (.inr ⟨.inl rfl, o + t.size - 1, by show (o : Int) + t.size - 1 = _; omega, by omega⟩)
 | .group n t, o, h, ha, hr, k, x, h1, h2, hx => by
  have pt := t.size_pos
  simp only [T.size] at h2
  by_cases e1 : k < o + t.size
  ·exact QF xs t o h.2 ha.1 hr k x h1 e1 hx
  ·obtain rfl : k = o + t.size := by omega
   have hy : xs[o + t.size]? = some (T.root (.group n t) o) := ha.2
   obtain rfl := Option.some.inj (hy.symm.trans hx)
   exact .inr (.inr ⟨.inr rfl, o + t.size - 1, by show (o : Int) + t.size - 1 = _; omega, by omega⟩)
end Go.Proofs.YtjgegohidhdbpaaGreatDoor
namespace Go.Proofs.YtjgegohidhdbpaaGreatDoor
open Go.RowKit
theorem Y7 (w : World) : Calls prog 15 #[] w fun e w' => e = .returned (qk fun _ => none) ∧ Below w.heap.size w w' := by
 have HN := ξ (fun w => qdr w)
 go_enter func15, ntmps15
 go_wp2
 have ht : (10 : Nat) = 10 := rfl
 obtain ⟨Z, hZ⟩ : ∃ Z : Value, Z = .complex .f64 0 0 := ⟨_, rfl⟩
 go_loopw [2] (fun i wr => ∃ k : Nat, k ≤ 10 ∧ i = .int .i64 k ∧ qm wr w.heap.size 10 30 (fun _ => .complex .f64 0 0) ∧ qm wr (w.heap.size + 1) 10 30 (fun i => if i < k then .complex .f64 qf qf else .complex .f64 0 0) ∧ Below w.heap.size w wr) (fun i _ => 10 - (RowKit.intOf i).toNat)
 case atStart =>
  refine ⟨0, by omega, rfl, ?_, ?_, ((Below.refl _ w).alloc (Nat.le_refl _) _).alloc (by simp) _⟩
  ·exact (qm.new w 10 30 (fun _ => .complex .f64 0 0)).below (B := w.heap.size + 1) (by
    have := (Below.refl (w.heap.size + 1) (w.alloc (.cells ((List.range 10).map fun _ => Value.complex .f64 0 0).toArray 30))).alloc (by simp) (.cells ((List.range 10).map fun _ => Value.complex .f64 0 0).toArray 30)
    exact this) (by omega)
  ·have := qm.new (w.alloc (.cells ((List.range 10).map fun _ => Value.complex .f64 0 0).toArray 30)) 10 30 (fun i => if i < 0 then .complex .f64 qf qf else .complex .f64 0 0)
   rw [World.size_alloc] at this
   exact this
 case round =>
  obtain ⟨k, hk, rfl, hr, hc, hB⟩ := hrel
  have lB := hB.size
  by_cases zb : k < 10
  ·have c0 : wr.cell? ⟨w.heap.size + 1, k, none⟩ = some (.complex .f64 0 0) := by rw [hc.cell k zb]; simp
   have z0 := hc.fz k
   have hs := hc.set k (.complex .f64 qf qf)
   have e : (fun i => if i = k then Value.complex .f64 qf qf else (if i < k then .complex .f64 qf qf else .complex .f64 0 0)) = (fun i => if i < k + 1 then Value.complex .f64 qf qf else .complex .f64 0 0) := by
    funext i
    by_cases e1 : i = k
    ·subst e1; simp
    ·have : (i < k + 1) ↔ (i < k) := by omega
     simp [e1, this]
   rw [e] at hs
   have HS := ξ hs
   have HR := ξ (qm.mk ((Below.heap_setCell wr ⟨w.heap.size + 1, k, none⟩ (.complex .f64 qf qf) w.heap.size (by simp)).trans hr.heap) : qm (wr.setCell ⟨w.heap.size + 1, k, none⟩ (.complex .f64 qf qf)) w.heap.size 10 30 (fun _ => .complex .f64 0 0))
   have HB := ξ (hB.setCell (p := ⟨w.heap.size + 1, k, none⟩) (by simp) (.complex .f64 qf qf))
   clear hs e
   go_wp2_with fail
   refine (HN.out _).mono ?_
   rintro e v2 ⟨rfl, rfl⟩
   go_wp2
   go_roundw
   case rel => exact ⟨k + 1, by omega, by simp, HR.out, HS.out, HB.out⟩
   case measure => (simp [RowKit.intOf]) <;> omega
  ·obtain rfl : k = 10 := by omega
   have r_ := hr.ten
   obtain ⟨c0, c1, c2, c3, c4, c5, c6, c7, c8, c9⟩ := hc.ten
   have f0 := hr.fz 0
   have f1 := hr.fz 1
   have f2 := hr.fz 2
   have f3 := hr.fz 3
   have f4 := hr.fz 4
   have f5 := hr.fz 5
   have f6 := hr.fz 6
   have f7 := hr.fz 7
   have f8 := hr.fz 8
   have f9 := hr.fz 9
   simp only [Nat.reduceLT, if_true] at c0 c1 c2 c3 c4 c5 c6 c7 c8 c9
   have HB := ξ ((((((((((hB.setCell (p := ⟨w.heap.size, 0, none⟩) (Nat.le_refl _) (.complex .f64 qf qf)).setCell (p := ⟨w.heap.size, 1, none⟩) (Nat.le_refl _) (.complex .f64 qf qf)).setCell (p := ⟨w.heap.size, 2, none⟩) (Nat.le_refl _) (.complex .f64 qf qf)).setCell (p := ⟨w.heap.size, 3, none⟩) (Nat.le_refl _) (.complex .f64 qf qf)).setCell (p := ⟨w.heap.size, 4, none⟩) (Nat.le_refl _) (.complex .f64 qf qf)).setCell (p := ⟨w.heap.size, 5, none⟩) (Nat.le_refl _) (.complex .f64 qf qf)).setCell (p := ⟨w.heap.size, 6, none⟩) (Nat.le_refl _) (.complex .f64 qf qf)).setCell (p := ⟨w.heap.size, 7, none⟩) (Nat.le_refl _) (.complex .f64 qf qf)).setCell (p := ⟨w.heap.size, 8, none⟩) (Nat.le_refl _) (.complex .f64 qf qf)).setCell (p := ⟨w.heap.size, 9, none⟩) (Nat.le_refl _) (.complex .f64 qf qf))
   have v0 := hr.set 0 (.complex .f64 qf qf)
   have s0 : (wr.setCell ⟨w.heap.size, 0, none⟩ (.complex .f64 qf qf)).cell? ⟨w.heap.size, 0, none⟩ = some (.complex .f64 qf qf) := by rw [v0.cell 0 (by decide)]; simp
   have v1 := v0.set 1 (.complex .f64 qf qf)
   have s1 : ((wr.setCell ⟨w.heap.size, 0, none⟩ (.complex .f64 qf qf)).setCell ⟨w.heap.size, 1, none⟩ (.complex .f64 qf qf)).cell? ⟨w.heap.size, 1, none⟩ = some (.complex .f64 qf qf) := by rw [v1.cell 1 (by decide)]; simp
   have v2 := v1.set 2 (.complex .f64 qf qf)
   have s2 : (((wr.setCell ⟨w.heap.size, 0, none⟩ (.complex .f64 qf qf)).setCell ⟨w.heap.size, 1, none⟩ (.complex .f64 qf qf)).setCell ⟨w.heap.size, 2, none⟩ (.complex .f64 qf qf)).cell? ⟨w.heap.size, 2, none⟩ = some (.complex .f64 qf qf) := by rw [v2.cell 2 (by decide)]; simp
   have v3 := v2.set 3 (.complex .f64 qf qf)
   have s3 : ((((wr.setCell ⟨w.heap.size, 0, none⟩ (.complex .f64 qf qf)).setCell ⟨w.heap.size, 1, none⟩ (.complex .f64 qf qf)).setCell ⟨w.heap.size, 2, none⟩ (.complex .f64 qf qf)).setCell ⟨w.heap.size, 3, none⟩ (.complex .f64 qf qf)).cell? ⟨w.heap.size, 3, none⟩ = some (.complex .f64 qf qf) := by rw [v3.cell 3 (by decide)]; simp
   have v4 := v3.set 4 (.complex .f64 qf qf)
   have s4 : (((((wr.setCell ⟨w.heap.size, 0, none⟩ (.complex .f64 qf qf)).setCell ⟨w.heap.size, 1, none⟩ (.complex .f64 qf qf)).setCell ⟨w.heap.size, 2, none⟩ (.complex .f64 qf qf)).setCell ⟨w.heap.size, 3, none⟩ (.complex .f64 qf qf)).setCell ⟨w.heap.size, 4, none⟩ (.complex .f64 qf qf)).cell? ⟨w.heap.size, 4, none⟩ = some (.complex .f64 qf qf) := by rw [v4.cell 4 (by decide)]; simp
   have v5 := v4.set 5 (.complex .f64 qf qf)
   have s5 : ((((((wr.setCell ⟨w.heap.size, 0, none⟩ (.complex .f64 qf qf)).setCell ⟨w.heap.size, 1, none⟩ (.complex .f64 qf qf)).setCell ⟨w.heap.size, 2, none⟩ (.complex .f64 qf qf)).setCell ⟨w.heap.size, 3, none⟩ (.complex .f64 qf qf)).setCell ⟨w.heap.size, 4, none⟩ (.complex .f64 qf qf)).setCell ⟨w.heap.size, 5, none⟩ (.complex .f64 qf qf)).cell? ⟨w.heap.size, 5, none⟩ = some (.complex .f64 qf qf) := by rw [v5.cell 5 (by decide)]; simp
   have v6 := v5.set 6 (.complex .f64 qf qf)
   have s6 : (((((((wr.setCell ⟨w.heap.size, 0, none⟩ (.complex .f64 qf qf)).setCell ⟨w.heap.size, 1, none⟩ (.complex .f64 qf qf)).setCell ⟨w.heap.size, 2, none⟩ (.complex .f64 qf qf)).setCell ⟨w.heap.size, 3, none⟩ (.complex .f64 qf qf)).setCell ⟨w.heap.size, 4, none⟩ (.complex .f64 qf qf)).setCell ⟨w.heap.size, 5, none⟩ (.complex .f64 qf qf)).setCell ⟨w.heap.size, 6, none⟩ (.complex .f64 qf qf)).cell? ⟨w.heap.size, 6, none⟩ = some (.complex .f64 qf qf) := by rw [v6.cell 6 (by decide)]; simp
   have v7 := v6.set 7 (.complex .f64 qf qf)
   have s7 : ((((((((wr.setCell ⟨w.heap.size, 0, none⟩ (.complex .f64 qf qf)).setCell ⟨w.heap.size, 1, none⟩ (.complex .f64 qf qf)).setCell ⟨w.heap.size, 2, none⟩ (.complex .f64 qf qf)).setCell ⟨w.heap.size, 3, none⟩ (.complex .f64 qf qf)).setCell ⟨w.heap.size, 4, none⟩ (.complex .f64 qf qf)).setCell ⟨w.heap.size, 5, none⟩ (.complex .f64 qf qf)).setCell ⟨w.heap.size, 6, none⟩ (.complex .f64 qf qf)).setCell ⟨w.heap.size, 7, none⟩ (.complex .f64 qf qf)).cell? ⟨w.heap.size, 7, none⟩ = some (.complex .f64 qf qf) := by rw [v7.cell 7 (by decide)]; simp
   have v8 := v7.set 8 (.complex .f64 qf qf)
   have s8 : (((((((((wr.setCell ⟨w.heap.size, 0, none⟩ (.complex .f64 qf qf)).setCell ⟨w.heap.size, 1, none⟩ (.complex .f64 qf qf)).setCell ⟨w.heap.size, 2, none⟩ (.complex .f64 qf qf)).setCell ⟨w.heap.size, 3, none⟩ (.complex .f64 qf qf)).setCell ⟨w.heap.size, 4, none⟩ (.complex .f64 qf qf)).setCell ⟨w.heap.size, 5, none⟩ (.complex .f64 qf qf)).setCell ⟨w.heap.size, 6, none⟩ (.complex .f64 qf qf)).setCell ⟨w.heap.size, 7, none⟩ (.complex .f64 qf qf)).setCell ⟨w.heap.size, 8, none⟩ (.complex .f64 qf qf)).cell? ⟨w.heap.size, 8, none⟩ = some (.complex .f64 qf qf) := by rw [v8.cell 8 (by decide)]; simp
   have v9 := v8.set 9 (.complex .f64 qf qf)
   have s9 : ((((((((((wr.setCell ⟨w.heap.size, 0, none⟩ (.complex .f64 qf qf)).setCell ⟨w.heap.size, 1, none⟩ (.complex .f64 qf qf)).setCell ⟨w.heap.size, 2, none⟩ (.complex .f64 qf qf)).setCell ⟨w.heap.size, 3, none⟩ (.complex .f64 qf qf)).setCell ⟨w.heap.size, 4, none⟩ (.complex .f64 qf qf)).setCell ⟨w.heap.size, 5, none⟩ (.complex .f64 qf qf)).setCell ⟨w.heap.size, 6, none⟩ (.complex .f64 qf qf)).setCell ⟨w.heap.size, 7, none⟩ (.complex .f64 qf qf)).setCell ⟨w.heap.size, 8, none⟩ (.complex .f64 qf qf)).setCell ⟨w.heap.size, 9, none⟩ (.complex .f64 qf qf)).cell? ⟨w.heap.size, 9, none⟩ = some (.complex .f64 qf qf) := by rw [v9.cell 9 (by decide)]; simp
   have za := ξ (ζ s0 (ζ s1 (ζ s2 (ζ s3 (ζ s4 (ζ s5 (ζ s6 (ζ s7 (ζ s8 s9)))))))))
   clear hr hc v0 v1 v2 v3 v4 v5 v6 v7 v8 v9 s0 s1 s2 s3 s4 s5 s6 s7 s8 s9
   go_wp2
   obtain ⟨s0, s1, s2, s3, s4, s5, s6, s7, s8, s9⟩ := za.out
   refine bodyPost_ret (v := qk fun _ => none) (by simp [results, results15, go_sem, qk, qj, s0, s1, s2, s3, s4, s5, s6, s7, s8, s9]) rfl ⟨rfl, HB.out⟩
end Go.Proofs.YtjgegohidhdbpaaGreatDoor
