/- The reference's look, May, Text. -/
import Derived.Test.YtjgegohidhdbpaaGreatDoorJRxRa
import Derived.Test.YtjgegohidhdbpaaGreatDoorJRxU
import Derived.Test.YtjgegohidhdbpaaGreatDoorJRxTi
import Derived.Test.YtjgegohidhdbpaaGreatDoorJRxIt
import Derived.Test.YtjgegohidhdbpaaGreatDoorJRxTs
import Derived.Test.YtjgegohidhdbpaaGreatDoorJSetJ
import Derived.Test.YtjgegohidhdbpaaGreatDoorJRxRi
import Derived.Test.YtjgegohidhdbpaaGreatDoorJRxTj
import Derived.BigQuiet
import Derived.Deep.RegionHeld3
import Derived.Laws.DeepStrings4
import Derived.Test.YtjgegohidhdbpaaGreatDoorJMcC
open Go.Proofs.Tryz
set_option linter.unusedVariables false
set_option linter.unusedSimpArgs false
set_option maxRecDepth 100000
set_option maxHeartbeats 40000000
namespace Go.Proofs.YtjgegohidhdbpaaGreatDoor
open Go.RowKit
theorem yv {xs : List Nd} {one : Bool} (h1 : one = true ↔ xs.length = 1) : ∀ (t : T) (o : Nat), t.Ok → T.At (fun i => xs[i]?) t o → (tOk one t ↔ ∀ i, o ≤ i → i < o + t.size → ∀ x, xs[i]? = some x → Zj xs x)
 | .leaf x, o, ok, ha => by
  have hx : xs[o]? = some x := ha
  have hk := ok.2
  simp only [tOk, T.size]
  constructor
  ·intro h i hi Jh y hy
   obtain rfl : i = o := by omega
   rw [hx] at hy
   cases hy
   unfold Zj
   by_cases h0 : x.kind = 0
   ·rw [if_pos h0]; exact h1.1 (h h0)
   ·rw [if_neg h0, if_neg (by omega), if_neg (by omega), if_neg (by omega)]
    trivial
  ·intro h h0
   have := h o (by omega) (by omega) x hx
   unfold Zj at this
   rw [if_pos h0] at this
   exact h1.2 this
 | .two k a b, o, ok, ⟨ha, hb, hr⟩ => by
  have iha := yv h1 a o ok.2.1 ha
  have ihb := yv h1 b (o + a.size) ok.2.2 hb
  have ra := ha.root
  have rb := hb.root
  have sa := a.size_pos
  have sb := b.size_pos
  have ka : zW xs ((o : Int) + a.size - 1) = rk a := by
   unfold zW
   rw [show ((o : Int) + a.size - 1).toNat = o + a.size - 1 by omega]
   have : xs[o + a.size - 1]? = some (a.root o) := ra
   rw [this]
   exact Q3 a o
  have kb : zW xs ((o : Int) + a.size + b.size - 1) = rk b := by
   unfold zW
   rw [show ((o : Int) + a.size + b.size - 1).toNat = o + a.size + b.size - 1 by omega]
   have : xs[o + a.size + b.size - 1]? = some (b.root (o + a.size)) := rb
   rw [this]
   exact Q3 b _
  have vJ : Zj xs (T.root (.two k a b) o) ↔ yf k a b = true := by
   unfold Zj yf
   simp only [T.root, ka, kb]
   rcases ok.1 with rfl | rfl
   ·simp
    constructor
    ·rintro ⟨q1, q2, q3⟩; exact ⟨⟨q1, q2⟩, q3⟩
    ·rintro ⟨⟨q1, q2⟩, q3⟩; exact ⟨q1, q2, q3⟩
   ·simp
  simp only [tOk, T.size]
  rw [iha, ihb, ← vJ]
  constructor
  ·rintro ⟨p1, p2, p3⟩ i hi Jh x hx
   by_cases c1 : i < o + a.size
   ·exact p2 i hi c1 x hx
   by_cases c2 : i < o + a.size + b.size
   ·exact p3 i (by omega) c2 x hx
   obtain rfl : i = o + a.size + b.size := by omega
   have : xs[o + a.size + b.size]? = some (T.root (.two k a b) o) := hr
   rw [this] at hx
   cases hx
   exact p1
  ·intro h
   refine ⟨h (o + a.size + b.size) (by omega) (by omega) _ hr, fun i hi Jh => h i hi (by omega), fun i hi Jh => h i (by omega) (by omega)⟩
 | .times m M t, o, ok, ⟨ha, hr⟩ => by
  have ih := yv h1 t o ok.2 ha
  have ra := ha.root
  have sa := t.size_pos
  have ka : zW xs ((o : Int) + t.size - 1) = rk t := by
   unfold zW
   rw [show ((o : Int) + t.size - 1).toNat = o + t.size - 1 by omega]
   have : xs[o + t.size - 1]? = some (t.root o) := ra
   rw [this]
   exact Q3 t o
  have vJ : Zj xs (T.root (.times m M t) o) ↔ jf t = true := by
   unfold Zj jf
   simp only [T.root, ka]
   simp
   constructor
   ·rintro (q | q | q)
    ·exact .inl (.inl q)
    ·exact .inl (.inr q)
    ·exact .inr q
   ·rintro ((q | q) | q)
    ·exact .inl q
    ·exact .inr (.inl q)
    ·exact .inr (.inr q)
  simp only [tOk, T.size]
  rw [ih, ← vJ]
  constructor
  ·rintro ⟨p1, p2⟩ i hi Jh x hx
   by_cases c1 : i < o + t.size
   ·exact p2 i hi c1 x hx
   obtain rfl : i = o + t.size := by omega
   have : xs[o + t.size]? = some (T.root (.times m M t) o) := hr
   rw [this] at hx
   cases hx
   exact p1
  ·intro h
   exact ⟨h (o + t.size) (by omega) (by omega) _ hr, fun i hi Jh => h i hi (by omega)⟩
 | .group n t, o, ok, ⟨ha, hr⟩ => by
  have ih := yv h1 t o ok.2 ha
  have sa := t.size_pos
  have vJ : Zj xs (T.root (.group n t) o) := by
   unfold Zj
   simp only [T.root]
   simp
  simp only [tOk, T.size]
  rw [ih]
  constructor
  ·intro p2 i hi Jh x hx
   by_cases c1 : i < o + t.size
   ·exact p2 i hi c1 x hx
   obtain rfl : i = o + t.size := by omega
   have : xs[o + t.size]? = some (T.root (.group n t) o) := hr
   rw [this] at hx
   cases hx
   exact vJ
  ·intro h i hi Jh
   exact h i hi (by omega)
def XK : Wk := ⟨false, 0, fun _ => false, false⟩
def wk1 : Wk := ⟨true, 0, fun _ => false, false⟩
theorem qfO {xs : List Nd} {t : T} (Qt : t.Ok) (ha : T.At (fun i => xs[i]?) t 0) (hs : t.size = xs.length) (Kx : xs.length ≤ 120) (Qp : ∀ (i : Nat) (x : Nd), xs[i]? = some x → qY x = true) : (jo (decide (xs.length = 1)) t wk1).g = true ↔ qN xs t := by
 rw [(QE _ t wk1).1, yv (xs := xs) (by simp) t 0 Qt ha]
 constructor
 ·rintro ⟨_, h2, h3⟩
  refine ⟨Qt, ha, hs, Kx, Qp, fun i x hx => ?_, h3⟩
  have hi : i < xs.length := (List.getElem?_eq_some_iff.1 hx).1
  exact h2 i (by omega) (by omega) x hx
 ·rintro ⟨_, _, _, _, _, h6, h7⟩
  exact ⟨rfl, fun i _ _ x hx => h6 i x hx, h7⟩
theorem WB.storeAt {w : World} {b : Nat} {v : Array Value} (h : WB w b v) (hs : v.size = 13) (C : Array Value) (hc : C.size = 13) (ha : C.all (·.oneCell') = true) : (Instr.storeAt 142 (.pointer (some ⟨b, 0, none⟩)) (.agg C)).run prog w = .ok () (w.setRow b C) := by
 simp only [Instr.storeAt, Instr.sureAddr, Sem.run_bind, Sem.run_pure, Result.andThen]
 exact run_storeVar_row (P := prog) w b 142 142 v C h.heap (by rw [KF, hc]) (by rw [hs, hc]) ha
theorem vr {ops : Array Oper} {rest : List Oper} {o : Oper} {a : Act} {Q : Exit → Act → World → Prop} {w : World} {b : Nat} {v C : Array Value} (h : WB w b v) (hs : v.size = 13) (hc : C.size = 13) (yJ : C.all (·.oneCell') = true) (hgd : o.guard = none) {x y : Operand}
  (ho : o.op = .store 142 x y) (hx : a.eval x = .pointer (some ⟨b, 0, none⟩)) (hy : a.eval y = .agg C) (hK : wpList prog ops Q rest (a.put o.dst undef) (w.setRow b C)) : wpList prog ops Q (o :: rest) a w := by
 refine wpList_plain hgd fun K hK' => ?_
 unfold Oper.wp execOp
 simp only [ho, hx, hy, h.storeAt hs C hc yJ, Sem.run_bind, Sem.run_pure, Result.andThen_ok]
 exact hK' _ _ hK
structure Looks (xs : List Nd) (W : Wk) : Prop where
 g : W.g = true ↔ ∃ t, qN xs t
 k : ∀ t, qN xs t → W.k = t.groups
 r : ∀ t, qN xs t → (W.r = true ↔ 0 < t.refs)
theorem Zz {xs : List Nd} (h : ¬ ∃ t, qN xs t) : Looks xs XK := ⟨⟨fun e => (by simp [XK] at e), fun e => absurd e h⟩, fun t ht => absurd ⟨t, ht⟩ h, fun t ht => absurd ⟨t, ht⟩ h⟩
theorem qcY (p : Option Addr) (n cap : Nat) (xs : List Nd) (hn : n < 1 ∨ 120 < n) (w : World) (h : kS w p n xs) :
  Calls prog 104 #[.slice p n cap] w fun e w' => (∃ W : Wk, e = .returned (.agg W.cells) ∧ Looks xs W) ∧ Below w.heap.size w w' := by
 have hp : ¬ ∃ t, qN xs t := fun ⟨t, ht⟩ => by
  have h1 := ht.2.2.1; have h2 := t.size_pos; have h3 := ht.2.2.2.1; have := h.len
  omega
 have hl := Zz hp
 have hs := h.small
 have hb : Below w.heap.size w (w.alloc (.cells #[.bool false, .int .i64 0, .bool false, .bool false, .bool false, .bool false, .bool false, .bool false, .bool false, .bool false, .bool false, .bool false, .bool false] 142)) := (Below.refl _ w).alloc (Nat.le_refl _) _
 have hwb : WB (w.alloc (.cells #[.bool false, .int .i64 0, .bool false, .bool false, .bool false, .bool false, .bool false, .bool false, .bool false, .bool false, .bool false, .bool false, .bool false] 142)) w.heap.size #[.bool false, .int .i64 0, .bool false, .bool false, .bool false, .bool false, .bool false, .bool false, .bool false, .bool false, .bool false, .bool false, .bool false] := ⟨zt w _⟩
 have ql := hwb.load rfl
 clear h hp hwb
 rcases hn with hn | hn
 ·have h1 : ((n : Int) < 1) = True := by simp; omega
  go_enter func104, ntmps104
  go_wp2
  refine bodyPost_ret (v := .agg #[.bool false, .int .i64 0, .bool false, .bool false, .bool false, .bool false, .bool false, .bool false, .bool false, .bool false, .bool false, .bool false, .bool false]) (by simp [results, results104, asAddr, Result.andThen, Act.put, ql]) rfl ⟨⟨XK, rfl, hl⟩, hb⟩
 ·have h1 : ((n : Int) < 1) = False := by simp; omega
  have h2 : ((120 : Int) < n) = True := by simp; omega
  go_enter func104, ntmps104
  go_wp2
  refine bodyPost_ret (v := .agg #[.bool false, .int .i64 0, .bool false, .bool false, .bool false, .bool false, .bool false, .bool false, .bool false, .bool false, .bool false, .bool false, .bool false]) (by simp [results, results104, asAddr, Result.andThen, Act.put, ql]) rfl ⟨⟨XK, rfl, hl⟩, hb⟩
theorem qfP (b o n cap : Nat) (xs : List Nd) (qq : xs.length = n) (h1 : 1 ≤ n) (hn : n ≤ 120) (qM : ∀ (i : Nat) (x : Nd), xs[i]? = some x → x.Fits) (w : World) (hx : qn w b o xs) :
  Calls prog 104 #[.slice (some ⟨b, o, none⟩) n cap] w fun e w' => (∃ W : Wk, e = .returned (.agg W.cells) ∧ Looks xs W) ∧ Below w.heap.size w w' := by
 have lb := hx.lt
 have g1 : ((n : Int) < 1) = False := by simp; omega
 have g2 : ((120 : Int) < n) = False := by simp; omega
 have hw0 : WB (w.alloc (.cells XK.cells 142)) w.heap.size XK.cells := ⟨zt w _⟩
 have Vw : Below w.heap.size w (w.alloc (.cells XK.cells 142)) := (Below.refl _ w).alloc (Nat.le_refl _) _
 have HF := ξ qM
 have H0 := ξ hw0
 have B0 := ξ Vw
 clear qM hw0 Vw
 go_enter func104, ntmps104
 go_wp2
 go_loopw [3] (fun i wr => ∃ k : Nat, k ≤ n ∧ i = .int .i64 k ∧ (∀ j x, j < k → xs[j]? = some x → qY x = true) ∧ WB wr w.heap.size XK.cells ∧ Below w.heap.size w wr) (fun i _ => n - (RowKit.intOf i).toNat)
 case atStart => exact ⟨0, by omega, rfl, fun j x hj => absurd hj (by omega), H0.out, B0.out⟩
 case round =>
  clear H0 B0
  obtain ⟨k, hk, rfl, yJ, hwb, hB⟩ := hrel
  by_cases zb : k < n
  ·obtain ⟨x, yI⟩ : ∃ x, xs[k]? = some x := ⟨xs[k]'(by omega), List.getElem?_eq_getElem (by omega)⟩
   have hw := hx.below hB hx.lt
   have lB := hB.size
   have d := hw.cell k x yI
   have FC := ξ (qc7 x (HF.out k x yI) wr)
   have qkO : (k : Int) < n := by omega
   obtain ⟨q, hq⟩ : ∃ q, q = qY x := ⟨_, rfl⟩
   rw [← hq] at FC
   have qhd : q = true → ∀ j x, j < k + 1 → xs[j]? = some x → qY x = true := fun hqt j y hj hy => by
    by_cases e : j = k
    ·subst e; rw [yI] at hy; cases hy; rw [← hq, hqt]
    ·exact yJ j y (by omega) hy
   have qhe : q = false → ¬ ∃ t, qN xs t := fun hqf ⟨t, ht⟩ => by
    have := ht.2.2.2.2.1 k x yI
    rw [← hq, hqf] at this
    cases this
   obtain ⟨kd, w0, w1, w2, w3, xa, xb, m, M, xn⟩ := x
   have d_ := zB d
   have HA := ξ qhd
   have HN := ξ qhe
   clear d hw yI hq yJ qhd qhe hx
   cases q
   ·go_wp2_with fail
    refine FC.out.mono ?_
    rintro e W1 ⟨rfl, qr⟩
    have VL := hwb.below qr hwb.lt
    have zj := hB.trans (qr.mono hB.size)
    have kW := VL.put XK.cells
    have US := Below.setRow zj (Nat.le_refl _) XK.cells
    go_wp2_with (refine vr (C := XK.cells) VL rfl rfl (Wk.cells_all _) rfl rfl rfl rfl ?_)
    have ql := kW.load rfl
    refine bodyPost_ret (v := .agg XK.cells) (by simp [results, results104, asAddr, Result.andThen, Act.put, ql]) rfl ⟨⟨XK, rfl, Zz (by first | exact HN.out rfl | exact HN.out trivial)⟩, US⟩
   ·go_wp2_with fail
    refine FC.out.mono ?_
    rintro e W1 ⟨rfl, qr⟩
    have VL := hwb.below qr hwb.lt
    have zj := hB.trans (qr.mono hB.size)
    go_wp2
    go_roundw
    case rel => exact ⟨k + 1, by omega, by simp, (by first | exact HA.out rfl | exact HA.out trivial), VL, zj⟩
    case measure => (simp [RowKit.intOf]) <;> omega
  ·obtain rfl : k = n := by omega
   have Qp : ∀ (i : Nat) (x : Nd), xs[i]? = some x → qY x = true := fun i x hi => yJ i x (by have := (List.getElem?_eq_some_iff.1 hi).1; omega) hi
   obtain ⟨r, Y9, hr1, Qo, kH⟩ := qfQ b o k cap xs qq (by omega) Qp (k - 1) (by omega)
   have ek : ((k - 1 : Nat) : Int) = (k : Int) - 1 := by omega
   rw [ek] at kH
   have FI := ξ (kH wr (hx.below hB hx.lt))
   have hlt1 : ((k : Int) < k) = False := by simp
   have hwk : IntKind.i64.wrap ((k : Int) - 1) = (k : Int) - 1 := by simp [IntKind.wrap, IntKind.signed, IntKind.bits]; omega
   by_cases hz : r = 0
   ·have Jk : (r == 0) = true := by simp [hz]
    obtain ⟨t, Qt, Wj, kR⟩ := (Qo 0).1 (by simpa using hz)
    have hts : t.size = xs.length := by omega
    have TH := fun w' hx' => vK b o k cap xs qq hn t Qt 0 (k - 1) wk1 w' Wj (by omega) (by omega) (by show 0 + t.size ≤ 1000; omega) hx'
    have hL : Looks xs (jo (decide (k = 1)) t wk1) := by
     have hp := qfO (t := t) Qt Wj hts (by omega) Qp
     rw [qq] at hp
     refine ⟨⟨fun h => ⟨t, hp.1 h⟩, fun ⟨t', Ur⟩ => ?_⟩, fun t' Ur => ?_, fun t' Ur => ?_⟩
     ·have e := (T.uniq _ t t' 0 0 Qt Ur.1 Wj Ur.2.1 (by rw [hts, Ur.2.2.1])).1
      subst e
      exact hp.2 Ur
     ·have e := (T.uniq _ t t' 0 0 Qt Ur.1 Wj Ur.2.1 (by rw [hts, Ur.2.2.1])).1
      subst e
      rw [V8]; show 0 + _ = _; omega
     ·have e := (T.uniq _ t t' 0 0 Qt Ur.1 Wj Ur.2.1 (by rw [hts, Ur.2.2.1])).1
      subst e
      rw [Wt]
      simp [wk1]
    rw [ek] at TH
    generalize jo (decide (k = 1)) t wk1 = U at *
    have TH1 := ξ TH
    have XL : U.cells.size = 13 := rfl
    have hua := U.cells_all
    have HL := ξ hL
    clear TH hL Qo kH Qp yJ Qt Wj kR hts ek
    simp only [Wk.cells, wk1] at TH1
    have TH2 : Hid (∀ (w' : World), qn w' b o xs → Calls prog 129 #[.slice (some ⟨b, o, none⟩) k cap, .int .i64 ((k : Int) - 1), .agg #[.bool true, .int .i64 0, .bool false, .bool false, .bool false, .bool false, .bool false, .bool false, .bool false, .bool false, .bool false, .bool false, .bool false]] w' fun e w'' => e = .returned (.agg U.cells) ∧ Below w'.heap.size w' w'') := TH1
    clear TH1
    go_wp2_with fail
    refine FI.out.mono ?_
    rintro e W1 ⟨rfl, qr⟩
    have zj := hB.trans (qr.mono hB.size)
    have VL := hwb.below qr hwb.lt
    clear FI qr
    go_wp2_with fail
    refine (TH2.out W1 (hx.below zj lb)).mono ?_
    rintro e W2 ⟨rfl, qQ⟩
    have vU := zj.trans (qQ.mono zj.size)
    have hwb2 := VL.below qQ VL.lt
    have kW := hwb2.put U.cells
    have US := Below.setRow vU (Nat.le_refl _) U.cells
    go_wp2_with (refine vr (C := U.cells) hwb2 rfl rfl U.cells_all rfl rfl rfl rfl ?_)
    have ql := kW.load rfl
    refine bodyPost_ret (v := .agg U.cells) (by simp [results, results104, asAddr, Result.andThen, Act.put, ql]) rfl ⟨⟨U, rfl, HL.out⟩, US⟩
   ·have Jk : (r == 0) = false := by rw [beq_eq_false_iff_ne]; exact hz
    have hp : ¬ ∃ t, qN xs t := fun ⟨t, ht⟩ => hz (by
     have := (Qo 0).2 ⟨t, ht.1, ht.2.1, by have := ht.2.2.1; omega⟩
     simpa using this)
    have HL := ξ (Zz hp)
    clear Qo kH Qp yJ hp ek
    go_wp2_with fail
    refine FI.out.mono ?_
    rintro e W1 ⟨rfl, qr⟩
    have zj := hB.trans (qr.mono hB.size)
    have VL := hwb.below qr hwb.lt
    have kW := VL.put XK.cells
    have US := Below.setRow zj (Nat.le_refl _) XK.cells
    go_wp2_with (refine vr (C := XK.cells) VL rfl rfl (Wk.cells_all _) rfl rfl rfl rfl ?_)
    have ql := kW.load rfl
    refine bodyPost_ret (v := .agg XK.cells) (by simp [results, results104, asAddr, Result.andThen, Act.put, ql]) rfl ⟨⟨XK, rfl, HL.out⟩, US⟩
theorem qc8 (p : Option Addr) (n cap : Nat) (xs : List Nd) (w : World) (h : kS w p n xs) :
  Calls prog 104 #[.slice p n cap] w fun e w' => (∃ W : Wk, e = .returned (.agg W.cells) ∧ Looks xs W) ∧ Below w.heap.size w w' := by
 by_cases hn : n < 1 ∨ 120 < n
 ·exact qcY p n cap xs hn w h
 ·obtain ⟨b, o, rfl⟩ := h.ptr (by omega)
  exact qfP b o n cap xs h.len (by omega) (by omega) h.fits w (h.at' (by omega) b o rfl)
theorem qiu (p : Option Addr) (n cap : Nat) (xs : List Nd) (r : Bool) (hr : r = true ↔ ∃ t, qN xs t) (w : World) (h : kS w p n xs) :
  Calls prog 64 #[.slice p n cap] w fun e w' => e = .returned (.bool r) ∧ Below w.heap.size w w' := by
 have HL := ξ (qc8 p n cap xs w h)
 have HR := ξ hr
 clear hr h
 go_enter func64, ntmps64
 go_wp2_with fail
 refine HL.out.mono ?_
 rintro e w1 ⟨⟨W, rfl, hW⟩, hB⟩
 have hg : W.g = r := by
  rw [Bool.eq_iff_iff, hW.g, HR.out]
 obtain ⟨g, k, en, r'⟩ := W
 obtain rfl : g = r := hg
 simp only [Wk.cells]
 clear hW HL HR
 have hfd : ∀ w : World, (Instr.field 142 (.agg #[.bool g, .int .i64 k, .bool (en 0), .bool (en 1), .bool (en 2), .bool (en 3), .bool (en 4), .bool (en 5), .bool (en 6), .bool (en 7), .bool (en 8), .bool (en 9), .bool r']) 0).run prog w = .ok (.bool g) w := fun _ => by kernel_rfl
 go_wp2
 go_ret
 exact ⟨rfl, hB⟩
theorem qfR (p : Option Addr) (n cap : Nat) (xs : List Nd) (R : Bool) (VJ : ∀ t, qN xs t → (R = true ↔ 0 < t.refs)) (Wu : (¬ ∃ t, qN xs t) → R = false) (w : World) (h : kS w p n xs) :
  Calls prog 105 #[.slice p n cap] w fun e w' => e = .returned (.bool R) ∧ Below w.heap.size w w' := by
 have HL := ξ (qc8 p n cap xs w h)
 have HI := ξ VJ
 have HO := ξ Wu
 clear VJ Wu h
 go_enter func105, ntmps105
 go_wp2_with fail
 refine HL.out.mono ?_
 rintro e w1 ⟨⟨W, rfl, hW⟩, hB⟩
 have hq : (W.g = true ∧ W.r = R) ∨ (W.g = false ∧ R = false) := by
  by_cases hp : ∃ t, qN xs t
  ·obtain ⟨t, ht⟩ := hp
   exact .inl ⟨hW.g.2 ⟨t, ht⟩, by rw [Bool.eq_iff_iff, hW.r t ht, HI.out t ht]⟩
  ·refine .inr ⟨?_, HO.out hp⟩
   cases e : W.g with
   | false => rfl
   | true => exact absurd (hW.g.1 e) hp
 obtain ⟨g, k, en, r'⟩ := W
 simp only at hq
 simp only [Wk.cells]
 clear hW HL HI HO
 rcases hq with ⟨rfl, rfl⟩ | ⟨rfl, rfl⟩
 ·go_wp2
  go_ret
  exact ⟨rfl, hB.alloc hB.size _⟩
 ·go_wp2
  go_ret
  exact ⟨rfl, hB.alloc hB.size _⟩
theorem qir (p : Option Addr) (n cap : Nat) (xs : List Nd) (hn : n ≤ 130) (w : World) (h : kS w p n xs) :
  Calls prog 11 #[.slice p n cap] w fun e w' => (∃ v, e = .returned v ∧ RRow w' w.heap.size v n xs) ∧ Below w.heap.size w w' := by
 obtain ⟨i0, hi, QX, kF, vv⟩ := info_parts qiv
 have qq := h.len
 go_enter func11, ntmps11
 go_wp2
 go_loopw [3, 4] (fun v i wr => ∃ (k : Nat) (v' : Value), v = v' ∧ k ≤ n ∧ i = .int .i64 k ∧ wr.ownsRow w.heap.size 73 10 v' k (flat (xs.take k)) ∧ Below w.heap.size w wr) (fun _ i _ => n - (RowKit.intOf i).toNat)
 case atStart => exact ⟨0, _, rfl, by omega, rfl, World.ownsRow_made w #[] 0 (Nat.le_refl _) (Nat.zero_le _) (by simp), (Below.refl _ w).alloc (Nat.le_refl _) _⟩
 case round =>
  obtain ⟨k, v, rfl, hk, rfl, zq, hB⟩ := hrel
  by_cases zb : k < n
  ·obtain ⟨b, o, rfl⟩ := h.ptr (by omega)
   have hx := h.at' (by omega) b o rfl
   obtain ⟨x, yI⟩ : ∃ x, xs[k]? = some x := ⟨xs[k]'(by omega), List.getElem?_eq_getElem (by omega)⟩
   have hsn := qa3 xs k x yI
   have hw := hx.below hB hx.lt
   have lb := hx.lt
   have lB := hB.size
   have d := hw.cell k x yI
   have ex : ∀ j : Nat, ((wr.alloc (.cells x.cells 57)).alloc (.cells x.cells 73)).cell? ⟨wr.heap.size + 1, j, none⟩ = x.cells[j]? := fun j => by
    have hh : ((wr.alloc (.cells x.cells 57)).alloc (.cells x.cells 73)).heap[wr.heap.size + 1]? = some (.cells x.cells 73 (0, 0)) := by
     have := zt (wr.alloc (.cells x.cells 57)) (.cells x.cells 73)
     rw [World.size_alloc] at this
     exact this
    rw [cell_of _ _ _ _ hh]
   obtain ⟨kd, w0, w1, w2, w3, xa, xb, m, M, xn⟩ := x
   have d_ := zB d
   have HS := ξ hsn
   have qkO : (k : Int) < n := by omega
   clear d hw yI hx h hsn
   go_wp2_with (at_builtin; refine wpList_append_own _ rfl _ _ 33 rfl w.heap.size 73 i0 (.agg #[.int .i64 0, .int .u64 0, .int .u64 0, .int .u64 0, .int .u64 0, .int .i64 0, .int .i64 0, .int .i64 0, .int .i64 0, .int .i64 0]) 10 80 underlying33 hi QX kF vv rfl (by decide) _ _ _ rfl ((zq.alloc _).alloc _) ⟨wr.heap.size + 1, 0, none⟩ 1 1 (Nd.cells ⟨kd, w0, w1, w2, w3, xa, xb, m, M, xn⟩).toList rfl rfl ?qc2 ?qc3 ?qc4 ?qc5 ?qc6 ?_)
   case qc2 =>
    intro j u hj
    rw [Addr.add_lit, Nat.zero_add]
    refine (ex j).trans ?_
    simpa using hj
   case qc3 =>
    intro u hu
    simp [Nd.cells] at hu
    rcases hu with rfl | rfl | rfl | rfl | rfl | rfl | rfl | rfl | rfl | rfl <;> rfl
   case qc4 => unfold maxLen; omega
   case qc5 => omega
   case qc6 => simp; omega
   intro v' w4 hown1 zM hnil
   have qr : Below w.heap.size w w4 := ((hB.alloc (by omega) _).alloc (by simp; omega) _).grown zM (by simp; omega) (fun k hk => (zq.lt k hk).1)
   go_wp2
   go_roundw
   case rel => exact ⟨k + 1, v', rfl, by omega, by simp, by rw [HS.out]; exact hown1, qr⟩
   case measure => (simp [RowKit.intOf]) <;> omega
  ·obtain rfl : k = n := by omega
   have hlt1 : ((k : Int) < k) = False := by simp
   go_wp2
   go_ret
   have e : xs.take k = xs := by rw [← qq]; exact List.take_length
   rw [e] at zq
   exact ⟨⟨_, rfl, zq⟩, hB⟩
theorem Ws {w : World} {B n : Nat} {v : Value} {xs : List Nd} (h : RRow w B v n xs) (hn : xs.length = n) (hs : n ≤ 1000) (hf : ∀ (i : Nat) (x : Nd), xs[i]? = some x → x.Fits) :
  ∃ p cap, v = .slice p n cap ∧ kS w p n xs := by
 rcases h.2 with ⟨rfl, rfl⟩ | ⟨g, cap, cur, rfl, hg, hb, _, _, hc, ht⟩
 ·exact ⟨none, 0, rfl, ⟨hn, by omega, fun h => absurd h (by omega), fun h => absurd h (by omega), hf⟩⟩
 ·have hN : qn w g 0 xs := ⟨(Array.getElem?_eq_some_iff.1 hb).1, fun i x hx j u hj => by
   have hi : i < xs.length := (List.getElem?_eq_some_iff.1 hx).1
   have qhN : j < 10 := by
    have := (Array.getElem?_eq_some_iff.1 hj).1
    simpa [Nd.cells] using this
   rw [cell_of _ _ _ _ hb, Nat.zero_add]
   have e1 := flat_get xs i j x hx qhN
   rw [hj] at e1
   have : (cur.toList.take (n * 10))[i * 10 + j]? = (flat xs)[i * 10 + j]? := by rw [ht]
   rw [List.getElem?_take_of_lt (by omega), e1] at this
   rw [← this]
   simp⟩
  refine ⟨some ⟨g, 0, none⟩, cap, rfl, ⟨hn, by omega, fun _ => ⟨g, 0, rfl⟩, fun _ b o e => ?_, hf⟩⟩
  simp only [Option.some.injEq, Addr.mk.injEq] at e
  obtain ⟨rfl, rfl, _⟩ := e
  exact hN
theorem Wv (i j : Int) (w : World) : Calls prog 37 #[.agg #[.slice none 0 0, .string ⟨#[]⟩, .slice none 0 0], .int .i64 i, .int .i64 j] w fun e w' => e = .returned (.tuple #[qk kY, .bool false]) ∧ Below w.heap.size w w' := by
 have HNN : Hid (∀ W, Calls prog 15 #[] W fun e w' => e = .returned (qk kY) ∧ Below W.heap.size W w') := ξ (fun W => Y7 W)
 have ZA := ξ (Vx.new w #[.slice none 0 0, .string ⟨#[]⟩, .slice none 0 0])
 go_enter func37, ntmps37
 go_upto_region 1 with fail
 obtain ⟨W2, Vy⟩ : ∃ W2, W2 = ((w.alloc (.cells #[.slice none 0 0, .string ⟨#[]⟩, .slice none 0 0] 69)).alloc (.cells cZ 30)) := ⟨_, rfl⟩
 rw [← Vy] at ZA ⊢
 clear Vy
 have t0 : W2.cell? ⟨w.heap.size, 0, none⟩ = some (.slice none 0 0) := ZA.out.tab.cell 0
 go_wp2_with fail
 refine (HNN.out _).mono ?_
 rintro e wn ⟨rfl, jG⟩
 unfold qk
 have HJn := ξ (ZA.out.below jG)
 clear jG
 obtain ⟨V0, qT⟩ := (HJn.out).res
 have r_ := qT.rf10
 have za := ξ (qV qT kY)
 have qE := ξ ((HJn.out).put kY)
 clear qT
 go_wp2
 refine bodyPost_ret (v := .tuple #[.agg (cH kY), .bool false]) (by simp [results, results37, go_sem, za.out]) rfl ?_
 exact ⟨rfl, qE.out.bel⟩
theorem UT (b o len cap : Nat) (s : List UInt8) (w : World) (hl : 0 < len)
  (hR : ∀ W, Below w.heap.size w W → Calls prog 105 #[.slice (some ⟨b, o, none⟩) len cap] W fun e w' => e = .returned (.bool true) ∧ Below W.heap.size W w') :
  Calls prog 65 #[.slice (some ⟨b, o, none⟩) len cap, .string ⟨s.toArray⟩] w fun e w' => e = .returned (.slice (some ⟨w.heap.size, 0, none⟩) 0 0) ∧ Below w.heap.size w w' := by
 have hli : (0 : Int) < (len : Int) := by omega
 have qr : Below w.heap.size w (w.alloc (.cells #[] 144)) := (Below.refl _ w).alloc (Nat.le_refl _) _
 have HR := ξ (hR _ qr)
 have vm := ξ qr
 clear hR qr
 go_enter func65, ntmps65
 go_wp2
 go_loopw [5, 6] (fun gv kv wr => gv = .slice (some ⟨w.heap.size, 0, none⟩) 0 0 ∧ kv = .int .i64 0 ∧ wr = w.alloc (.cells #[] 144)) (fun _ _ _ => 0)
 case atStart => exact ⟨rfl, rfl, rfl⟩
 case round =>
  obtain ⟨rfl, rfl, hwr⟩ := hrel
  subst hwr
  go_wp2_with fail
  refine HR.out.mono ?_
  rintro e w5 ⟨rfl, ki⟩
  have Y8 := ξ (vm.out.trans (ki.mono vm.out.size))
  clear ki
  go_wp2
  go_ret
  exact ⟨rfl, Y8.out⟩
theorem qfS {w w' : World} {gv : Value} {len n : Nat} {RT : Nat → Nat} {RR : Nat → Nat → Nat} {G : Nat → Nat → Nat → Bool} (hl : 0 < len) (ho : w'.ownsRow w.heap.size 144 1 gv len (vz RT n len)) (hI : KG w w' gv len n w'.heap.size RT RR G) :
  ∃ g gcap, gv = .slice (some ⟨g, 0, none⟩) len gcap ∧ w.heap.size ≤ g ∧ yw w' g len n RT RR G := by
 rcases ho.2 with ⟨_, h0⟩ | ⟨g, cap, cur, e, ZX, hg, h1, h2, _, ht⟩
 ·omega
 ·refine ⟨g, cap, e, ZX, (Array.getElem?_eq_some_iff.1 hg).1, fun q hq => ?_, hI.grid⟩
  have h3 : (cur.toList.take (len * 1))[q]? = (vz RT n len)[q]? := by rw [ht]
  rw [List.getElem?_take_of_lt (by omega)] at h3
  have h4 : (vz RT n len)[q]? = some (zF (RT q) n) := by
   unfold vz
   rw [List.getElem?_map, List.getElem?_range hq]; rfl
  rw [h4, Array.getElem?_toList] at h3
  simp [World.cell?, hg, h3, zF]
abbrev fzO (b o cap : Nat) (xs : List Nd) (s : List UInt8) (g gl gcap : Nat) (RT : Nat → Nat) (RR : Nat → Nat → Nat) (G : Nat → Nat → Nat → Bool) : FZ := ⟨b, o, xs.length, cap, xs, s, g, gl, gcap, s.length + 1, RT, RR, G⟩
theorem UU (b o cap : Nat) (xs : List Nd) (s : List UInt8) (t : T) (w : World) (hN : kS w (some ⟨b, o, none⟩) xs.length xs) (hp : qN xs t) (hs : s.length ≤ 90) :
  Calls prog 65 #[.slice (some ⟨b, o, none⟩) xs.length cap, .string ⟨s.toArray⟩] w fun e w' => (∃ g gl gcap RT RR G, e = .returned (.slice (some ⟨g, 0, none⟩) gl gcap) ∧ FZ.Ok (fzO b o cap xs s g gl gcap RT RR G) ∧ JG (fzO b o cap xs s g gl gcap RT RR G) (xs.length - 1) (zh s t) ∧ w.heap.size ≤ g ∧ (gl = 0 ∨ gl = xs.length ∧ yw w' g xs.length (s.length + 1) RT RR G)) ∧ Below w.heap.size w w' := by
 have Ww := hp.2.2.1
 have Zl := t.size_pos
 have hx := hN.at' (by omega) b o rfl
 have Kx := hp.2.2.2.1
 have hb : ∃ R : Bool, R = decide (0 < t.refs) := ⟨_, rfl⟩
 obtain ⟨R, hR⟩ := hb
 have hrc : ∀ W, Below w.heap.size w W → Calls prog 105 #[.slice (some ⟨b, o, none⟩) xs.length cap] W fun e w' => e = .returned (.bool R) ∧ Below W.heap.size W w' := fun W hB =>
  qfR _ _ cap xs R (fun t' Ur => by
   obtain rfl : t = t' := hp.uniq Ur.1 Ur.2.1 Ur.2.2.1
   rw [hR, decide_eq_true_iff]) (fun h => absurd ⟨t, hp⟩ h) W (hN.below hB)
 cases R with
 | true =>
  have Y9 := of_decide_eq_true hR.symm
  refine (UT b o xs.length cap s w (by omega) hrc).mono ?_
  rintro e w' ⟨rfl, hB⟩
  have hZ : FZ.Ok (fzO b o cap xs s w.heap.size 0 0 (fun _ => 0) (fun _ _ => 0) (fun _ _ _ => false)) := ⟨rfl, Kx, rfl, hs⟩
  have hF := V9 _ hZ hN.fits (fun h => absurd h (by simp)) t 0 hp.1 hp.2.1 (fun h => absurd h (by simp))
  rw [Nat.zero_add, Ww] at hF
  exact ⟨⟨_, _, _, _, _, _, rfl, hZ, hF, Nat.le_refl _, .inl rfl⟩, hB⟩
 | false =>
  have Y9 : t.refs = 0 := by have := of_decide_eq_false hR.symm; omega
  have hk : qhg xs := fun k x yI => ⟨hN.fits k x yI, QF xs t 0 hp.1 hp.2.1 Y9 k x (Nat.zero_le _) (by rw [Nat.zero_add, Ww]; exact (List.getElem?_eq_some_iff.1 yI).1) yI⟩
  refine (qc9 b o xs.length cap xs s w hx rfl Kx hs hk hrc).mono ?_
  rintro e w' ⟨⟨gv, RT, RR, G, rfl, ho, hI, hG⟩, hB⟩
  obtain ⟨g, gcap, rfl, ZX, hT⟩ := qfS (by omega) ho hI
  have hZ : FZ.Ok (fzO b o cap xs s g xs.length gcap RT RR G) := ⟨rfl, Kx, rfl, hs⟩
  have hF := V9 _ hZ hN.fits (fun _ => hG) t 0 hp.1 hp.2.1 (fun _ => Y9)
  rw [Nat.zero_add, Ww] at hF
  exact ⟨⟨_, _, _, _, _, _, rfl, hZ, hF, ZX, .inr ⟨rfl, hT⟩⟩, hB⟩
theorem qm.neT {w : World} {a b n m : Nat} {t u : TypeId} {V U : Nat → Value} (h : qm w a n t V) (h' : qm w b m u U) (ht : t ≠ u) : a ≠ b := fun e => by
 subst e
 have := h.heap.symm.trans h'.heap
 simp only [Option.some.injEq, Obj.cells.injEq] at this
 exact ht this.2.1
theorem yw.put {X : World} {g m n r q k : Nat} {RT : Nat → Nat} {RR : Nat → Nat → Nat} {G : Nat → Nat → Nat → Bool} {V : Nat → Value} (h : yw X g m n RT RR G) (hg : g ≠ r) (hr : qm X r k 69 V) (v : Value) : yw (X.setCell ⟨r, q, none⟩ v) g m n RT RR G :=
 ⟨by rw [World.size_setCell]; exact h.lt, fun k hk => (ja hg v).trans (h.top k hk), fun k hk => (h.grid k hk).other ((h.grid k hk).top.neT hr (by decide)) (fun c hc => ((h.grid k hk).row c hc).neT hr (by decide)) v⟩
theorem qil (p : Option Addr) (n cap : Nat) (xs : List Nd) (s : List UInt8) (w : World) (hN : kS w p n xs) (hs : s.length ≤ 90) (ot : Option T) (h1 : ∀ t, ot = some t → qN xs t) (h2 : ot = none → ¬ ∃ t, qN xs t) :
  Calls prog 36 #[.slice p n cap, .string ⟨s.toArray⟩] w fun e w' => (∃ v m, e = .returned (.agg v) ∧ qfT w' v m (V5 s ot) ∧ (m = s.length ∨ ot = none ∧ m = 0)) ∧ Below w.heap.size w w' := by
 have qr : Below w.heap.size w (w.alloc (.cells #[.slice none 0 0, .string ⟨#[]⟩, .slice none 0 0] 69)) := (Below.refl _ w).alloc (Nat.le_refl _) _
 have Qy := zG.new w #[.slice none 0 0, .string ⟨#[]⟩, .slice none 0 0] 69
 have qfU := fun r hr => qiu p n cap xs r hr _ (hN.below qr)
 cases ot with
 | none =>
  have HM := ξ (qfU false ⟨fun h => (by cases h), fun h => absurd h (h2 rfl)⟩)
  have vm := ξ qr
  have HBK := ξ Qy
  clear qfU qr Qy hN h1 h2
  go_enter func36, ntmps36
  go_wp2_with fail
  refine HM.out.mono ?_
  rintro e w5 ⟨rfl, ki⟩
  have Qy := HBK.out.below ki HBK.out.lt
  have Y8 := ξ (vm.out.trans (ki.mono vm.out.size))
  clear ki
  have z0 : w5.cell? ⟨w.heap.size, 0, none⟩ = some (.slice none 0 0) := Qy.cell 0
  have z1 : w5.cell? ⟨w.heap.size, 1, none⟩ = some (.string ⟨#[]⟩) := Qy.cell 1
  have z2 : w5.cell? ⟨w.heap.size, 2, none⟩ = some (.slice none 0 0) := Qy.cell 2
  have f0 := Qy.fz 0
  have f1 := Qy.fz 1
  have f2 := Qy.fz 2
  have hv : qm w5 w.heap.size 3 69 (fun i => if i = 1 then .string ⟨#[]⟩ else .slice none 0 0) := ⟨Qy.heap⟩
  have HS := ξ hv
  have qda := ξ Qy
  clear hv Qy
  go_wp2_with fail
  have Qy := qda.out
  have hv : qm w5 w.heap.size 3 69 (fun i => if i = 1 then .string ⟨#[]⟩ else .slice none 0 0) := ⟨Qy.heap⟩
  have s0 : (w5.setCell ⟨w.heap.size, 0, none⟩ (.slice none 0 0)).cell? ⟨w.heap.size, 0, none⟩ = some (.slice none 0 0) := (hv.set 0 _).cell 0 (by decide)
  have s1 : ((w5.setCell ⟨w.heap.size, 0, none⟩ (.slice none 0 0)).setCell ⟨w.heap.size, 1, none⟩ (.string ⟨#[]⟩)).cell? ⟨w.heap.size, 1, none⟩ = some (.string ⟨#[]⟩) := ((hv.set 0 _).set 1 _).cell 1 (by decide)
  have s2 : (((w5.setCell ⟨w.heap.size, 0, none⟩ (.slice none 0 0)).setCell ⟨w.heap.size, 1, none⟩ (.string ⟨#[]⟩)).setCell ⟨w.heap.size, 2, none⟩ (.slice none 0 0)).cell? ⟨w.heap.size, 2, none⟩ = some (.slice none 0 0) := (((hv.set 0 _).set 1 _).set 2 _).cell 2 (by decide)
  refine bodyPost_ret (v := .agg #[.slice none 0 0, .string ⟨#[]⟩, .slice none 0 0]) (by simp [results, results36, go_sem, s0, s1, s2]) rfl ?_
  exact ⟨⟨_, 0, rfl, ⟨⟨_, _, _, _, _, _, _, rfl, rfl⟩, fun W hW i j => Wv i j W⟩, .inr ⟨trivial, rfl⟩⟩, ((Y8.out.setCell (Nat.le_refl _) _).setCell (Nat.le_refl _) _).setCell (Nat.le_refl _) _⟩
 | some t =>
  have hp := h1 t rfl
  have Zl := t.size_pos
  have Ww := hp.2.2.1
  have hn : 1 ≤ n := by have := hN.len; omega
  obtain ⟨b, o, rfl⟩ := hN.ptr hn
  obtain rfl := hN.len
  have HM := ξ (qfU true ⟨fun _ => ⟨t, h1 t rfl⟩, fun _ => rfl⟩)
  have HTB := ξ (fun W hB => UU b o cap xs s t W (hN.below hB) hp hs)
  have vm := ξ qr
  have HBK := ξ Qy
  have HN := ξ hN
  have HP := ξ hp
  clear qfU qr Qy hN h1 h2 hp Ww hn
  go_enter func36, ntmps36
  go_wp2_with fail
  refine HM.out.mono ?_
  rintro e w5 ⟨rfl, ki⟩
  have hbk5 := HBK.out.below ki HBK.out.lt
  have Y8 := ξ (vm.out.trans (ki.mono vm.out.size))
  have qda := ξ hbk5
  clear ki hbk5
  go_wp2_with fail
  refine (HTB.out _ Y8.out).mono ?_
  rintro e w6 ⟨⟨g, gl, gcap, RT, RR, G, rfl, hZ, hF, ZX, hT⟩, jY⟩
  have Qy := qda.out.below jY qda.out.lt
  have HB6 := ξ (Y8.out.trans (jY.mono Y8.out.size))
  have qt := ξ (ζ hZ (ζ hF (ζ ZX hT)))
  have QD : Hid (g ≠ w.heap.size) := ξ (by have := qda.out.lt; omega)
  have z0 : w6.cell? ⟨w.heap.size, 0, none⟩ = some (.slice none 0 0) := Qy.cell 0
  have z1 : w6.cell? ⟨w.heap.size, 1, none⟩ = some (.string ⟨#[]⟩) := Qy.cell 1
  have z2 : w6.cell? ⟨w.heap.size, 2, none⟩ = some (.slice none 0 0) := Qy.cell 2
  have f0 := Qy.fz 0
  have f1 := Qy.fz 1
  have f2 := Qy.fz 2
  have HBK6 := ξ Qy
  clear jY Qy hZ hF ZX hT
  go_wp2_with fail
  have Qy := HBK6.out
  have hv : qm w6 w.heap.size 3 69 (fun i => if i = 1 then .string ⟨#[]⟩ else .slice none 0 0) := ⟨Qy.heap⟩
  have s0 : (w6.setCell ⟨w.heap.size, 0, none⟩ (.slice (some ⟨b, o, none⟩) xs.length cap)).cell? ⟨w.heap.size, 0, none⟩ = some (.slice (some ⟨b, o, none⟩) xs.length cap) := (hv.set 0 _).cell 0 (by decide)
  have s1 : ((w6.setCell ⟨w.heap.size, 0, none⟩ (.slice (some ⟨b, o, none⟩) xs.length cap)).setCell ⟨w.heap.size, 1, none⟩ (.string ⟨s.toArray⟩)).cell? ⟨w.heap.size, 1, none⟩ = some (.string ⟨s.toArray⟩) := ((hv.set 0 _).set 1 _).cell 1 (by decide)
  have s2 : (((w6.setCell ⟨w.heap.size, 0, none⟩ (.slice (some ⟨b, o, none⟩) xs.length cap)).setCell ⟨w.heap.size, 1, none⟩ (.string ⟨s.toArray⟩)).setCell ⟨w.heap.size, 2, none⟩ (.slice (some ⟨g, 0, none⟩) gl gcap)).cell? ⟨w.heap.size, 2, none⟩ = some (.slice (some ⟨g, 0, none⟩) gl gcap) := (((hv.set 0 _).set 1 _).set 2 _).cell 2 (by decide)
  refine bodyPost_ret (v := .agg #[.slice (some ⟨b, o, none⟩) xs.length cap, .string ⟨s.toArray⟩, .slice (some ⟨g, 0, none⟩) gl gcap]) (by simp [results, results36, go_sem, s0, s1, s2]) rfl ?_
  have hBE := ((HB6.out.setCell (p := ⟨w.heap.size, 0, none⟩) (Nat.le_refl _) (.slice (some ⟨b, o, none⟩) xs.length cap)).setCell (p := ⟨w.heap.size, 1, none⟩) (Nat.le_refl _) (.string ⟨s.toArray⟩)).setCell (p := ⟨w.heap.size, 2, none⟩) (Nat.le_refl _) (.slice (some ⟨g, 0, none⟩) gl gcap)
  have Zl := t.size_pos
  have hx := (HN.out.below hBE).at' (by have := HP.out.2.2.1; omega) b o rfl
  refine ⟨⟨_, s.length, rfl, ⟨⟨_, _, _, _, _, _, _, rfl, by simp [ByteArray.size]⟩, fun W hW i j => ?_⟩, .inl rfl⟩, hBE⟩
  refine qdb (fzO b o cap xs s g gl gcap RT RR G) qt.out.1 t qt.out.2.1 (vp t HP.out.1) i j W (Zm.below ⟨hx, ?_⟩ hW)
  exact qt.out.2.2.2.imp id fun q => ⟨q.1, ((q.2.put QD.out hv _).put QD.out (hv.set 0 _) _).put QD.out ((hv.set 0 _).set 1 _) _⟩
end Go.Proofs.YtjgegohidhdbpaaGreatDoor
