/- A reader: a number of times: the walk. -/
import Derived.Test.YtdjcgjkbecncaaaGreatDoorJBrP
import Derived.ScopeJumps
import Derived.Tactics
set_option linter.unusedVariables false
set_option linter.unusedSimpArgs false
set_option maxRecDepth 100000
set_option maxHeartbeats 40000000
namespace Go.Proofs.YtdjcgjkbecncaaaGreatDoor
open Go.RowKit
section
variable {b : Nat} {s : List UInt8} {T : TypeId} {cs : Array Value} {p : Nat}
def TOut (w : World) (b : Nat) (T : TypeId) (cs : Array Value) (s : List UInt8) (p : Nat) (e : Ending) (w' : World) : Prop :=
 match timesP s p with
 | some q => e = .returned (.tuple #[.int .i64 q.1, .int .i64 q.2.1]) ∧ Mv w b T cs s q.2.2 w'
 | none => e = Pan 43 (p : Int) ∧ w.grownBy w' (some b)
theorem TOut.no {w w' : World} {e : Ending} (h : timesP s p = none) : TOut w b T cs s p e w' = (e = Pan 43 (p : Int) ∧ w.grownBy w' (some b)) := by unfold TOut; rw [h]
theorem TOut.yes {w w' : World} {e : Ending} {q : Int × Int × Nat} (h : timesP s p = some q) : TOut w b T cs s p e w' = (e = .returned (.tuple #[.int .i64 q.1, .int .i64 q.2.1]) ∧ Mv w b T cs s q.2.2 w') := by unfold TOut; rw [h]
theorem btimes_c (w : World) (h : TX w b T cs s p) (hsy : SynV w) (hbs : b ≠ 6) :
  Calls Tryz.prog 188 #[.pointer (some ⟨b, 0, none⟩)] w (TOut w b T cs s p) := by
 have hs := h.s
 have hsyl := hsy.lt
 have SYN := Lib.hid fun W (hg : w.grownBy W (some b)) => hsy.same (hg.block _ hsyl (fun e => hbs (Option.some.inj e).symm))
 have HSk := Lib.hid fun l (hl : l ≠ []) k w1 (m : Mv w b T cs s k w1) => skip_c l hl w1 m.x
 have HA := Lib.hid fun k w1 (m : Mv w b T cs s k w1) => ahead_c [92, 125] w1 m.x
 have HN := Lib.hid fun k w1 (m : Mv w b T cs s k w1) => bnumber_c w1 m.x (SYN.out w1 m.g) hbs
 have HW := Lib.hid fun w => wrong_c 43 (p : Int) w
 have HC := Lib.hid fun m M w => iscountb_c m M w
 have hm0 := Mv.of h (Below.refl _ _)
 have H1 := Lib.hid (skip_c [42] (by simp) w h)
 clear h hsy
 cases a1 : ah s p [42] with
 | true =>
  rw [a1, sk_yes a1] at H1
  have hr : timesP s p = some (0, -1, p + 1) := by unfold timesP; rw [if_pos a1]
  have HR := Lib.hid hr
  clear hr a1 hm0
  go_enter Tryz.func188, Tryz.ntmps188
  go_wp2_with fail
  refine H1.out.mono ?_
  rintro e w1 ⟨rfl, hm1⟩
  have HM := Lib.hid hm1
  clear hm1 H1
  go_wp2
  refine bodyPost_ret (v := .tuple #[.int .i64 0, .int .i64 (-1)]) (by simp [results, Tryz.results188, go_sem]) rfl ?_
  rw [TOut.yes HR.out]
  exact ⟨rfl, HM.out⟩
 | false =>
  rw [a1, sk_no a1] at H1
  obtain ⟨A, hA⟩ : ∃ A : Int × Bool × Nat, A = numP s (sk s p [92, 123]) := ⟨_, rfl⟩
  obtain ⟨a, ia, k1⟩ := A
  go_enter Tryz.func188, Tryz.ntmps188
  go_wp2_with fail
  refine H1.out.mono ?_
  rintro e w1 ⟨rfl, hm1⟩
  clear H1 hm0
  have c1 := hm1.x.cell1
  go_wp2_with fail
  refine (HSk.out [92, 123] (by simp) p w1 hm1).mono ?_
  rintro e w2 ⟨rfl, hm2'⟩
  have hm2 := hm1.trans hm2'
  clear hm1 hm2' c1
  go_wp2_with fail
  refine (HN.out _ w2 hm2).mono ?_
  rintro e w3 ⟨rfl, hm3'⟩
  have hm3 := hm2.trans hm3'
  clear hm2 hm3'
  rw [← hA] at hm3 ⊢
  simp only at hm3 ⊢
  go_wp2_with fail
  refine (HSk.out [44] (by simp) k1 w3 hm3).mono ?_
  rintro e w4 ⟨rfl, hm4'⟩
  have hm4 := hm3.trans hm4'
  clear hm3 hm4'
  cases a4 : ah s k1 [44] with
  | false =>
   rw [sk_no a4] at hm4
   have TP : Hid (timesP s p = if !ia || !ia || !ah s k1 [92, 125] || !isCountP a a then none else some (a, a, k1 + 2)) := Lib.hid (by unfold timesP; rw [if_neg (by rw [a1]; decide), ← hA]; simp only; rw [a4]; rfl)
   have hm := hm4
   clear hm4 hA
   cases ia with
   | false =>
    have hr : timesP s p = none := TP.out.trans (by simp)
    go_wp2_with fail
    refine (HW.out _).mono ?_
    rintro e wz ⟨rfl, rfl⟩
    unfold Pan
    go_wp2
    refine ⟨rfl, ?_⟩
    rw [TOut.no hr]
    exact ⟨rfl, hm.g⟩
   | true =>
    go_wp2_with fail
    refine (HSk.out [92, 125] (by simp) _ _ hm).mono ?_
    rintro e wk ⟨rfl, hmk'⟩
    have hmk := hm.trans hmk'
    clear hmk'
    cases ak : ah s k1 [92, 125] with
    | false =>
     have hr : timesP s p = none := TP.out.trans (by rw [ak]; simp)
     go_wp2_with fail
     refine (HW.out _).mono ?_
     rintro e wz ⟨rfl, rfl⟩
     unfold Pan
     go_wp2
     refine ⟨rfl, ?_⟩
     rw [TOut.no hr]
     exact ⟨rfl, hmk.g⟩
    | true =>
     rw [sk_yes ak] at hmk
     go_wp2_with fail
     refine (HC.out _ _ wk).mono ?_
     rintro e wc ⟨rfl, rfl⟩
     cases hcnt : isCountP a a with
     | false =>
      have hr : timesP s p = none := TP.out.trans (by rw [ak, hcnt]; simp)
      go_wp2_with fail
      refine (HW.out _).mono ?_
      rintro e wz ⟨rfl, rfl⟩
      unfold Pan
      go_wp2
      refine ⟨rfl, ?_⟩
      rw [TOut.no hr]
      exact ⟨rfl, hmk.g⟩
     | true =>
      have hr : timesP s p = some (a, a, k1 + 2) := TP.out.trans (by rw [ak, hcnt]; simp)
      have HMK := Lib.hid hmk
      have HR := Lib.hid hr
      clear hmk hr hm hcnt ak
      go_wp2
      refine bodyPost_ret (v := .tuple #[.int .i64 a, .int .i64 a]) (by simp [results, Tryz.results188, go_sem]) rfl ?_
      rw [TOut.yes HR.out]
      exact ⟨rfl, HMK.out⟩
  | true =>
   rw [sk_yes a4] at hm4
   have hm4 : Mv w b T cs s (k1 + 1) w4 := hm4
   go_wp2_with fail
   refine (HA.out _ w4 hm4).mono ?_
   rintro e w5 ⟨rfl, hB5⟩
   have hm5 := hm4.below hB5
   clear hm4 hB5
   cases a5 : ah s (k1 + 1) [92, 125] with
   | true =>
    have TP : Hid (timesP s p = if !ia || !true || !ah s (k1 + 1) [92, 125] || !isCountP a (-1) then none else some (a, -1, k1 + 1 + 2)) := Lib.hid (by unfold timesP; rw [if_neg (by rw [a1]; decide), ← hA]; simp only; rw [a4, a5]; simp only [↓reduceIte]; rw [a5])
    have hm := hm5
    clear hm5 hA
    cases ia with
    | false =>
     have hr : timesP s p = none := TP.out.trans (by simp)
     go_wp2_with fail
     refine (HW.out _).mono ?_
     rintro e wz ⟨rfl, rfl⟩
     unfold Pan
     go_wp2
     refine ⟨rfl, ?_⟩
     rw [TOut.no hr]
     exact ⟨rfl, hm.g⟩
    | true =>
     go_wp2_with fail
     refine (HSk.out [92, 125] (by simp) _ _ hm).mono ?_
     rintro e wk ⟨rfl, hmk'⟩
     have hmk := hm.trans hmk'
     clear hmk'
     cases ak : ah s (k1 + 1) [92, 125] with
     | false =>
      have hr : timesP s p = none := TP.out.trans (by rw [ak]; simp)
      go_wp2_with fail
      refine (HW.out _).mono ?_
      rintro e wz ⟨rfl, rfl⟩
      unfold Pan
      go_wp2
      refine ⟨rfl, ?_⟩
      rw [TOut.no hr]
      exact ⟨rfl, hmk.g⟩
     | true =>
      rw [sk_yes ak] at hmk
      go_wp2_with fail
      refine (HC.out _ _ wk).mono ?_
      rintro e wc ⟨rfl, rfl⟩
      cases hcnt : isCountP a (-1) with
      | false =>
       have hr : timesP s p = none := TP.out.trans (by rw [ak, hcnt]; simp)
       go_wp2_with fail
       refine (HW.out _).mono ?_
       rintro e wz ⟨rfl, rfl⟩
       unfold Pan
       go_wp2
       refine ⟨rfl, ?_⟩
       rw [TOut.no hr]
       exact ⟨rfl, hmk.g⟩
      | true =>
       have hr : timesP s p = some (a, -1, (k1 + 1) + 2) := TP.out.trans (by rw [ak, hcnt]; simp)
       have HMK := Lib.hid hmk
       have HR := Lib.hid hr
       clear hmk hr hm hcnt ak
       go_wp2
       refine bodyPost_ret (v := .tuple #[.int .i64 a, .int .i64 (-1)]) (by simp [results, Tryz.results188, go_sem]) rfl ?_
       rw [TOut.yes HR.out]
       exact ⟨rfl, HMK.out⟩
   | false =>
    obtain ⟨B, hBn⟩ : ∃ B : Int × Bool × Nat, B = numP s (k1 + 1) := ⟨_, rfl⟩
    obtain ⟨bb, ib, k2⟩ := B
    have TP : Hid (timesP s p = if !ia || !ib || !ah s k2 [92, 125] || !isCountP a bb then none else some (a, bb, k2 + 2)) := Lib.hid (by unfold timesP; rw [if_neg (by rw [a1]; decide), ← hA]; simp only; rw [a4, a5]; simp only [if_true, Bool.false_eq_true, if_false]; rw [← hBn])
    go_wp2_with fail
    refine (HN.out _ w5 hm5).mono ?_
    rintro e w6 ⟨rfl, hm6'⟩
    have hm := hm5.trans hm6'
    clear hm5 hm6'
    rw [← hBn] at hm ⊢
    simp only at hm ⊢
    clear hBn hA
    cases ia with
    | false =>
     have hr : timesP s p = none := TP.out.trans (by simp)
     go_wp2_with fail
     refine (HW.out _).mono ?_
     rintro e wz ⟨rfl, rfl⟩
     unfold Pan
     go_wp2
     refine ⟨rfl, ?_⟩
     rw [TOut.no hr]
     exact ⟨rfl, hm.g⟩
    | true =>
     cases ib with
     | false =>
      have hr : timesP s p = none := TP.out.trans (by simp)
      go_wp2_with fail
      refine (HW.out _).mono ?_
      rintro e wz ⟨rfl, rfl⟩
      unfold Pan
      go_wp2
      refine ⟨rfl, ?_⟩
      rw [TOut.no hr]
      exact ⟨rfl, hm.g⟩
     | true =>
      go_wp2_with fail
      refine (HSk.out [92, 125] (by simp) _ _ hm).mono ?_
      rintro e wk ⟨rfl, hmk'⟩
      have hmk := hm.trans hmk'
      clear hmk'
      cases ak : ah s k2 [92, 125] with
      | false =>
       have hr : timesP s p = none := TP.out.trans (by rw [ak]; simp)
       go_wp2_with fail
       refine (HW.out _).mono ?_
       rintro e wz ⟨rfl, rfl⟩
       unfold Pan
       go_wp2
       refine ⟨rfl, ?_⟩
       rw [TOut.no hr]
       exact ⟨rfl, hmk.g⟩
      | true =>
       rw [sk_yes ak] at hmk
       go_wp2_with fail
       refine (HC.out _ _ wk).mono ?_
       rintro e wc ⟨rfl, rfl⟩
       cases hcnt : isCountP a bb with
       | false =>
        have hr : timesP s p = none := TP.out.trans (by rw [ak, hcnt]; simp)
        go_wp2_with fail
        refine (HW.out _).mono ?_
        rintro e wz ⟨rfl, rfl⟩
        unfold Pan
        go_wp2
        refine ⟨rfl, ?_⟩
        rw [TOut.no hr]
        exact ⟨rfl, hmk.g⟩
       | true =>
        have hr : timesP s p = some (a, bb, k2 + 2) := TP.out.trans (by rw [ak, hcnt]; simp)
        have HMK := Lib.hid hmk
        have HR := Lib.hid hr
        clear hmk hr hm hcnt ak
        go_wp2
        refine bodyPost_ret (v := .tuple #[.int .i64 a, .int .i64 bb]) (by simp [results, Tryz.results188, go_sem]) rfl ?_
        rw [TOut.yes HR.out]
        exact ⟨rfl, HMK.out⟩
end
end Go.Proofs.YtdjcgjkbecncaaaGreatDoor
namespace Go.Proofs.YtdjcgjkbecncaaaGreatDoor
open Go.RowKit
def unitR (x : Except Er BRd) : Except Er (Unit × BRd) := match x with
 | .error e => .error e
 | .ok q => .ok ((), q)
def RowC (b : Nat) (s : List UInt8) (g : Nat) (row : BRd → Except Er (Bool × BRd)) : Prop :=
 ∀ (w : World) (r : BRd) (v : Value), RX w b s r v → FB w b v → r.g = g → Calls Tryz.prog 147 #[.pointer (some ⟨b, 0, none⟩)] w (ROut w b s v (fun any => .bool any) (row r))
section
variable {b : Nat} {s : List UInt8} {r : BRd} {v : Value}
theorem bgroup_c (row : BRd → Except Er (Bool × BRd)) (a : Nat) (hrow : r.g < 9 → RowC b s (r.g + 1) row) (hen : r.g ≤ 9) (w : World) (h : RX w b s r v) (hF : FB w b v) :
  Calls Tryz.prog 191 #[.pointer (some ⟨b, 0, none⟩), .int .i64 (a : Int)] w (ROut w b s v (fun _ : Unit => .tuple #[]) (unitR (grpP s row r a))) := by
 have d3 : w.cell? ⟨b, 3, none⟩ = some (.int .i64 (r.g : Int)) := (h.cell 3).trans rfl
 have e3 := h.fz 3
 have HW := Lib.hid fun w => wrong_c 41 (a : Int) w
 by_cases hg : r.g = 9
 ·have hq : ((r.g : Int) == 9) = true := by simp; omega
  have hr : unitR (grpP s row r a) = .error (41, a) := by unfold grpP; rw [if_pos hg]; rfl
  have HR := Lib.hid hr
  have HK := Lib.hid (RK.refl (w := w) (b := b) (v := v))
  clear hr hg h hF hrow
  go_enter Tryz.func191, Tryz.ntmps191
  go_wp2_with fail
  refine (HW.out _).mono ?_
  rintro e wz ⟨rfl, rfl⟩
  unfold Pan
  go_wp2
  exact ⟨rfl, ROut.no (HR.out) HK.out⟩
 ·have hq : ((r.g : Int) == 9) = false := by simp; omega
  obtain ⟨n, hn⟩ : ∃ n, n = r.g + 1 := ⟨_, rfl⟩
  have ew : IntKind.i64.wrap ((r.g : Int) + 1) = (n : Int) := by simp [IntKind.wrap, IntKind.signed, IntKind.bits]; omega
  have hn19 : 1 ≤ n ∧ n ≤ 9 := by omega
  have hn10 : (0 : Int) ≤ (n : Int) ∧ (n : Int) < 10 := by omega
  have h1 := h.row_but (j := 3) (.int .i64 (n : Int)) { r with g := n } rfl rfl h.p
  have k1 := (RK.refl (w := w) (b := b) (v := v)).set 3 (.int .i64 (n : Int))
  have F1 := hF.step k1
  have hc := (hrow (by omega)) _ { r with g := n } v h1 F1 hn
  have hcell3 : World.cell? (w.setCell ⟨b, 3, none⟩ (.int .i64 (n : Int))) ⟨b, 3, none⟩ = some (.int .i64 (n : Int)) := (h1.cell 3).trans rfl
  have hgr : grpP s row r a = (match row { r with g := n } with
   | .error e => .error e
   | .ok (any, q) => if !any || !ah s q.p [92, 41] then .error (41, a) else
    .ok (BRd.put { q with p := q.p + 2, en := fun k => if k = n then true else q.en k } ⟨7, 0, 0, 0, 0, (q.l.length : Int) - 1, 0, 0, 0, (n : Int)⟩)) := by
   unfold grpP; rw [if_neg hg, hn]; rfl
  have HG := Lib.hid hgr
  have HC := Lib.hid hc
  have HK1 := Lib.hid k1
  have HF1 := Lib.hid F1
  clear h1 k1 F1 hc hgr hrow h hF hg hn
  go_enter Tryz.func191, Tryz.ntmps191
  go_wp2_with fail
  refine HC.out.mono ?_
  intro e w2 hout
  clear HC hcell3 d3 e3
  unfold ROut at hout
  cases hrr : row { r with g := n } with
  | error er =>
   obtain ⟨z, ea⟩ := er
   rw [hrr] at hout
   obtain ⟨rfl, v2, k2⟩ := hout
   have hr : unitR (grpP s row r a) = .error (z, ea) := by rw [HG.out, hrr]; rfl
   unfold Pan
   go_wp2
   exact ⟨rfl, ROut.no hr (HK1.out.trans k2)⟩
  | ok rq =>
   obtain ⟨any, q⟩ := rq
   rw [hrr] at hout
   obtain ⟨rfl, v2, x2, k2⟩ := hout
   have HK2 := Lib.hid (HK1.out.trans k2)
   clear k2
   cases any with
   | false =>
    have hr : unitR (grpP s row r a) = .error (41, a) := by rw [HG.out, hrr]; rfl
    have HR := Lib.hid hr
    clear hr hrr
    go_wp2_with fail
    refine (HW.out _).mono ?_
    rintro e wz ⟨rfl, rfl⟩
    unfold Pan
    go_wp2
    exact ⟨rfl, ROut.no (HR.out) HK2.out⟩
   | true =>
    have hsk := skip_c [92, 41] (by simp) w2 x2.tx
    cases ak : ah s q.p [92, 41] with
    | false =>
     rw [ak] at hsk
     have hr : unitR (grpP s row r a) = .error (41, a) := by rw [HG.out, hrr]; simp only; rw [ak]; rfl
     have HR := Lib.hid hr
     have HS := Lib.hid hsk
     clear hr hrr hsk
     go_wp2_with fail
     refine HS.out.mono ?_
     rintro e w3 ⟨rfl, m3⟩
     have k3 := HK2.out.trans (RK.mv (v := v2) m3)
     clear HS m3
     go_wp2_with fail
     refine (HW.out _).mono ?_
     rintro e wz ⟨rfl, rfl⟩
     unfold Pan
     go_wp2
     exact ⟨rfl, ROut.no (HR.out) k3⟩
    | true =>
     rw [ak, sk_yes ak] at hsk
     obtain ⟨r4, hr4⟩ : ∃ r4 : BRd, r4 = { q with p := q.p + 2, en := fun k => if k = n then true else q.en k } := ⟨_, rfl⟩
     have hr : unitR (grpP s row r a) = .ok ((), r4.put ⟨7, 0, 0, 0, 0, (q.l.length : Int) - 1, 0, 0, 0, (n : Int)⟩) := by rw [HG.out, hrr]; simp only; rw [ak, hr4]; rfl
     have HR := Lib.hid hr
     have HS := Lib.hid hsk
     clear hr hrr hsk
     go_wp2_with fail
     refine HS.out.mono ?_
     rintro e w3 ⟨rfl, m3⟩
     have x3 := x2.mv m3
     have k3 := HK2.out.trans (RK.mv (v := v2) m3)
     clear HS m3 x2 HK2
     have hset : (rcells s (q.to (q.p + [92, 41].length)) v2).setIfInBounds (4 + n) (.bool true) = rcells s r4 v2 := by
      rw [hr4]
      have hn1 := hn19
      clear hr4
      rcases (by omega : n = 1 ∨ n = 2 ∨ n = 3 ∨ n = 4 ∨ n = 5 ∨ n = 6 ∨ n = 7 ∨ n = 8 ∨ n = 9) with rfl | rfl | rfl | rfl | rfl | rfl | rfl | rfl | rfl <;> rfl
     have x4 := x3.row_but (j := 4 + n) (.bool true) r4 hset (by rw [hr4]; rfl) (by rw [hr4]; exact x3.p)
     have k4 := k3.set (4 + n) (.bool true)
     have f4 := x3.fz (4 + n)
     have c4 : ∃ z, w3.cell? ⟨b, 4 + n, none⟩ = some z := by
      rw [x3.cell]
      rcases (by omega : n = 0 ∨ n = 1 ∨ n = 2 ∨ n = 3 ∨ n = 4 ∨ n = 5 ∨ n = 6 ∨ n = 7 ∨ n = 8 ∨ n = 9) with rfl | rfl | rfl | rfl | rfl | rfl | rfl | rfl | rfl | rfl <;> exact ⟨_, rfl⟩
     obtain ⟨z4, c4⟩ := c4
     obtain ⟨o, cap, rfl⟩ := x4.slice
     have hll : r4.l.length = q.l.length := by rw [hr4]
     have hlq := x4.l
     have d2 : World.cell? (w3.setCell ⟨b, 4 + n, none⟩ (.bool true)) ⟨b, 2, none⟩ = some (.slice o r4.l.length cap) := (x4.cell 2).trans rfl
     have d2' : w3.cell? ⟨b, 2, none⟩ = some (.slice o r4.l.length cap) := (x3.cell 2).trans rfl
     rw [hll] at d2 d2'
     have ewl : IntKind.i64.wrap ((q.l.length : Int) - 1) = (q.l.length : Int) - 1 := by simp [IntKind.wrap, IntKind.signed, IntKind.bits]; omega
     have hp := rput_c ⟨7, 0, 0, 0, 0, (q.l.length : Int) - 1, 0, 0, 0, (n : Int)⟩ _ x4
     simp only at hp
     have HP := Lib.hid hp
     have K4 := Lib.hid k4
     clear hp k4 x4 x3 k3 hset hr4
     go_wp2_with fail
     refine HP.out.mono ?_
     rintro e w5 ⟨rfl, v5, x5, k5⟩
     have X5 := Lib.hid x5
     have K5 := Lib.hid (K4.out.trans k5)
     clear x5 k5 HP K4
     go_wp2
     go_end0
     exact ROut.yes HR.out X5.out K5.out
end
end Go.Proofs.YtdjcgjkbecncaaaGreatDoor
namespace Go.Proofs.YtdjcgjkbecncaaaGreatDoor
open Go.RowKit
theorem u8_no {c d : UInt8} (h : c ≠ d) (n : Int) (hn : (d.toNat : Int) = n) : ((c.toNat : Int) == n) = false := by
 rw [beq_eq_false_iff_ne]
 intro e
 exact h (UInt8.toNat_inj.1 (by omega))
theorem u8_is {c d : UInt8} (h : c = d) (n : Int) (hn : (d.toNat : Int) = n) : ((c.toNat : Int) == n) = true := by
 subst h
 rw [beq_iff_eq]; exact hn
theorem bytes_lf : byNd (inS ⟨#[10]⟩ 1) = byNd (rg 10 10) := by
 unfold byNd
 have e : ∀ k, k < 4 → wd (inS ⟨#[10]⟩ 1) k = wd (rg 10 10) k := fun k hk => wd_congr hk (by decide +kernel)
 rw [e 0 (by omega), e 1 (by omega), e 2 (by omega), e 3 (by omega)]
theorem quoted_in : ∀ n : Nat, n < 256 → (decide (0 ≤ Lib.indexByte [46, 91, 92, 42, 94, 36] (UInt8.ofNat n)) = decide (UInt8.ofNat n ∈ ([46, 91, 92, 42, 94, 36] : List UInt8))) := by decide +kernel
section
variable {b : Nat} {s : List UInt8} {r : BRd} {v : Value}
theorem escape_c (row : BRd → Except Er (Bool × BRd)) (a : Nat) (hrow : r.g < 9 → RowC b s (r.g + 1) row) (hen : r.g ≤ 9) (w : World) (h : RX w b s r v) (hF : FB w b v) :
  Calls Tryz.prog 186 #[.pointer (some ⟨b, 0, none⟩), .int .i64 (a : Int)] w (ROut w b s v (fun _ : Unit => .tuple #[]) (unitR (escP s row r a))) := by
 have hp := h.p
 have hs := h.s
 have hO := over_c w h.tx
 have HW := Lib.hid fun z w => wrong_c z (a : Int) w
 by_cases hov : r.p = s.length
 ·rw [decide_eq_true hov] at hO
  have hr : unitR (escP s row r a) = .error (40, a) := by unfold escP; rw [List.getElem?_eq_none (by omega)]; rfl
  have HR := Lib.hid hr
  have HO := Lib.hid hO
  clear hr hO h hF hrow
  go_enter Tryz.func186, Tryz.ntmps186
  go_wp2_with fail
  refine HO.out.mono ?_
  rintro e w1 ⟨rfl, hB1⟩
  have HK := Lib.hid (RK.below (b := b) (v := v) hB1)
  go_wp2_with fail
  refine (HW.out 40 _).mono ?_
  rintro e wz ⟨rfl, rfl⟩
  unfold Pan
  go_wp2
  exact ⟨rfl, ROut.no (HR.out) HK.out⟩
 ·rw [decide_eq_false hov] at hO
  obtain ⟨c, hc⟩ : ∃ c, s[r.p]? = some c := ⟨_, List.getElem?_eq_getElem (by omega)⟩
  have hx := fun W => ix_c h.tx c hc W
  have ew : IntKind.i64.wrap ((r.p : Int) + 1) = (r.p : Int) + 1 := by simp [IntKind.wrap, IntKind.signed, IntKind.bits]; omega
  have hE : escP s row r a = (
    if c = 40 then grpP s row (r.to (r.p + 1)) a else
    if decide (49 ≤ c.toNat) && decide (c.toNat ≤ 57) then (if !r.en (c.toNat - 48) then .error (44, a) else .ok ((r.to (r.p + 1)).put ⟨8, 0, 0, 0, 0, 0, 0, 0, 0, (c.toNat : Int) - 48⟩)) else
    if c = 110 then .ok ((r.to (r.p + 1)).put (byNd (rg 10 10))) else
    if c = 47 ∨ c ∈ ([46, 91, 92, 42, 94, 36] : List UInt8) then .ok ((r.to (r.p + 1)).put (byNd (rg c.toNat c.toNat))) else
    if c = 123 then .error (43, a) else .error (40, a)) := by unfold escP; rw [hc]
  have HE := Lib.hid hE
  have HO := Lib.hid hO
  have H := Lib.hid h
  have HFB := Lib.hid hF
  have HROW := Lib.hid hrow
  have hlt1 : r.p + 1 ≤ s.length := by omega
  have HPB := Lib.hid fun G w1 v1 (h1 : RX w1 b s (r.to (r.p + 1)) v1) => putbytes_c G w1 h1
  clear hO h hF hrow hE
  go_enter Tryz.func186, Tryz.ntmps186
  go_wp2_with fail
  refine HO.out.mono ?_
  rintro e w1 ⟨rfl, hB1⟩
  have h1 := H.out.below hB1
  have c0 : w1.cell? ⟨b, 0, none⟩ = some (.string ⟨s.toArray⟩) := (h1.cell 0).trans rfl
  have c1 : w1.cell? ⟨b, 1, none⟩ = some (.int .i64 (r.p : Int)) := (h1.cell 1).trans rfl
  have f1 := h1.fz 1
  go_wp2_with fail
  go_quiet (fail)
  have hBq := hB1.trans ((Go.below_drewN (Below.refl w1.heap.size w1) nq).mono hB1.size)
  have h2 := (H.out.below hBq).row_but (j := 1) (.int .i64 ((r.p : Int) + 1)) (r.to (r.p + 1)) (by rw [show (r.p : Int) + 1 = ((r.p + 1 : Nat) : Int) by omega]; rfl) rfl hlt1
  have k2 := (RK.below (b := b) (v := v) hBq).set 1 (.int .i64 ((r.p : Int) + 1))
  have F2 := HFB.out.step k2
  have H2 := Lib.hid h2
  have HK1 := Lib.hid k2
  have HF2 := Lib.hid F2
  have hcl := c.toNat_lt
  clear h1 h2 k2 F2 hBq hB1 HO HFB
  by_cases h40 : c = 40
  ·have q40 := u8_is h40 40 rfl
   have hr : unitR (escP s row r a) = unitR (grpP s row (r.to (r.p + 1)) a) := by rw [HE.out, if_pos h40]
   have HR := Lib.hid hr
   have hgc := bgroup_c (r := r.to (r.p + 1)) row a HROW.out hen _ H2.out HF2.out
   have HG := Lib.hid hgc
   clear hgc hr HE H2 HF2 HROW h40 hc
   go_wp2_with fail
   refine HG.out.mono ?_
   intro e w5 hout
   have hout := ROut.trans HK1.out hout
   clear HK1
   unfold ROut at hout
   cases hrr : unitR (grpP s row (r.to (r.p + 1)) a) with
   | error er =>
    obtain ⟨z, ea⟩ := er
    rw [hrr] at hout
    obtain ⟨rfl, v2, k2⟩ := hout
    unfold Pan
    go_wp2
    exact ⟨rfl, ROut.no (HR.out.trans hrr) k2⟩
   | ok rq =>
    obtain ⟨uu, q⟩ := rq
    rw [hrr] at hout
    obtain ⟨rfl, v2, x2, k2⟩ := hout
    have HX := Lib.hid x2
    have HK := Lib.hid k2
    clear x2 k2
    go_wp2
    go_end0
    exact ROut.yes (HR.out.trans hrr) HX.out HK.out
  ·have q40 := u8_no h40 40 rfl
   clear HROW
   by_cases hdg : 49 ≤ c.toNat ∧ c.toNat ≤ 57
   ·have g1 : ((49 : Int) ≤ (c.toNat : Int)) = True := by simp; omega
    have g2 : ((c.toNat : Int) ≤ 57) = True := by simp; omega
    obtain ⟨n, hn⟩ : ∃ n, n = c.toNat - 48 := ⟨_, rfl⟩
    have en : (c.toNat : Int) - 48 = (n : Int) := by omega
    have ew8 : IntKind.u8.wrap ((c.toNat : Int) - 48) = (n : Int) := by rw [en]; simp [IntKind.wrap, IntKind.signed, IntKind.bits]; omega
    have ew64 : IntKind.i64.wrap (n : Int) = (n : Int) := by simp [IntKind.wrap, IntKind.signed, IntKind.bits]; omega
    have hr : unitR (escP s row r a) = (if !(r.to (r.p + 1)).en n then .error (44, a) else .ok ((), (r.to (r.p + 1)).put ⟨8, 0, 0, 0, 0, 0, 0, 0, 0, (n : Int)⟩)) := by
     rw [HE.out, if_neg h40, if_pos (by simp [hdg]), ← hn, en]
     show unitR (if !r.en n then _ else _) = (if !r.en n then _ else _)
     cases r.en n <;> rfl
    have HR := Lib.hid hr
    have hgc := ref_c (r := r.to (r.p + 1)) n a (by omega) _ H2.out
    have HG := Lib.hid hgc
    clear hgc hr HE H2 HF2 h40 hc hn hdg en
    go_wp2_with fail
    refine HG.out.mono ?_
    intro e w5 hout
    have hout := ROut.trans HK1.out hout
    clear HK1
    unfold ROut at hout
    cases hrr : (if !(r.to (r.p + 1)).en n then (.error (44, a) : Except Er (Unit × BRd)) else .ok ((), (r.to (r.p + 1)).put ⟨8, 0, 0, 0, 0, 0, 0, 0, 0, (n : Int)⟩)) with
    | error er =>
     obtain ⟨z, ea⟩ := er
     rw [hrr] at hout
     obtain ⟨rfl, v2, k2⟩ := hout
     unfold Pan
     go_wp2
     exact ⟨rfl, ROut.no (HR.out.trans hrr) k2⟩
    | ok rq =>
     obtain ⟨uu, q⟩ := rq
     rw [hrr] at hout
     obtain ⟨rfl, v2, x2, k2⟩ := hout
     have HX := Lib.hid x2
     have HK := Lib.hid k2
     clear x2 k2
     go_wp2
     go_end0
     exact ROut.yes (HR.out.trans hrr) HX.out HK.out
   ·have hb : (decide (49 ≤ c.toNat) && decide (c.toNat ≤ 57)) = false := by
     rw [Bool.and_eq_false_iff, decide_eq_false_iff_not, decide_eq_false_iff_not]; omega
    have gg : ((49 : Int) ≤ (c.toNat : Int)) = False ∨ (((49 : Int) ≤ (c.toNat : Int)) = True ∧ ((c.toNat : Int) ≤ 57) = False) := by
     by_cases q : 49 ≤ c.toNat
     ·exact .inr ⟨by simp; omega, by simp; omega⟩
     ·exact .inl (by simp; omega)
    have HE2 : Hid (escP s row r a = (
      if c = 110 then .ok ((r.to (r.p + 1)).put (byNd (rg 10 10))) else
      if c = 47 ∨ c ∈ ([46, 91, 92, 42, 94, 36] : List UInt8) then .ok ((r.to (r.p + 1)).put (byNd (rg c.toNat c.toNat))) else
      if c = 123 then .error (43, a) else .error (40, a))) := Lib.hid (by rw [HE.out, if_neg h40, if_neg (by rw [hb]; decide)])
    clear HE HF2 hdg hb h40 hc
    have HIX : Hid (∀ w, Calls Tryz.prog 95 #[.string ⟨#[46, 91, 92, 42, 94, 36]⟩, .int .u8 (c.toNat : Int)] w fun e w' => (∃ z : Int, e = .returned (.int .i64 z) ∧ (0 ≤ z ↔ c ∈ ([46, 91, 92, 42, 94, 36] : List UInt8))) ∧ w' = w) := Lib.hid fun w => by
     refine (Tryz.strings_IndexByte ⟨#[46, 91, 92, 42, 94, 36]⟩ (c.toNat : Int) w).mono ?_
     rintro e w' ⟨rfl, rfl⟩
     have q := quoted_in c.toNat (by omega)
     have e1 : UInt8.ofNat c.toNat = c := by simp
     have e2 : ((c.toNat : Int).toNat).toUInt8 = c := by simp
     rw [e1, decide_eq_decide] at q
     rw [e2]
     exact ⟨⟨_, rfl, q⟩, rfl⟩
    rcases gg with g1 | ⟨g1, g2⟩
    ·by_cases h110 : c = 110
     ·have q110 := u8_is h110 110 rfl
      have hr : unitR (escP s row r a) = .ok ((), (r.to (r.p + 1)).put (byNd (inS ⟨#[10]⟩ 1))) := by rw [HE2.out, if_pos h110, bytes_lf]; rfl
      have HR := Lib.hid hr
      have hof := fun w => ofTo ⟨#[10]⟩ (by decide) w
      have HOF := Lib.hid hof
      clear hr hof HE2 HIX h110
      go_wp2_with fail
      refine (HOF.out _).mono ?_
      rintro e w5 ⟨rfl, hB5⟩
      have HXn := Lib.hid (H2.out.below hB5)
      have HKn := Lib.hid (HK1.out.trans (RK.below (b := b) (v := v) hB5))
      clear hB5 HOF
      go_wp2_with fail
      refine (HPB.out (inS ⟨#[10]⟩ 1) _ _ HXn.out).mono ?_
      rintro e w6 ⟨rfl, v6, x6, k6⟩
      have HX6 := Lib.hid x6
      have HK6 := Lib.hid (HKn.out.trans k6)
      clear x6 k6
      go_wp2
      go_end0
      exact ROut.yes HR.out HX6.out HK6.out
     ·have q110 := u8_no h110 110 rfl
      by_cases h47 : c = 47
      ·have q47 := u8_is h47 47 rfl
       have hr : unitR (escP s row r a) = .ok ((), (r.to (r.p + 1)).put (byNd (rg c.toNat c.toNat))) := by rw [HE2.out, if_neg h110, if_pos (.inl h47)]; rfl
       have HR := Lib.hid hr
       have HRG := Lib.hid (rangeTo c.toNat c.toNat (by omega) (by omega))
       unfold RangeTo at HRG
       clear hr HE2 HIX h110 h47
       go_wp2_with fail
       refine (HRG.out _).mono ?_
       rintro e w5 ⟨rfl, hB5⟩
       have HXn := Lib.hid (H2.out.below hB5)
       have HKn := Lib.hid (HK1.out.trans (RK.below (b := b) (v := v) hB5))
       clear hB5 HRG
       go_wp2_with fail
       refine (HPB.out (rg c.toNat c.toNat) _ _ HXn.out).mono ?_
       rintro e w6 ⟨rfl, v6, x6, k6⟩
       have HX6 := Lib.hid x6
       have HK6 := Lib.hid (HKn.out.trans k6)
       clear x6 k6
       go_wp2
       go_end0
       exact ROut.yes HR.out HX6.out HK6.out
      ·have q47 := u8_no h47 47 rfl
       by_cases hin : c ∈ ([46, 91, 92, 42, 94, 36] : List UInt8)
       ·have hr : unitR (escP s row r a) = .ok ((), (r.to (r.p + 1)).put (byNd (rg c.toNat c.toNat))) := by rw [HE2.out, if_neg h110, if_pos (.inr hin)]; rfl
        have HR := Lib.hid hr
        have HIN := Lib.hid hin
        have HRG := Lib.hid (rangeTo c.toNat c.toNat (by omega) (by omega))
        unfold RangeTo at HRG
        clear hr HE2 h110 h47 hin
        go_wp2_with fail
        refine (HIX.out _).mono ?_
        rintro e w4 ⟨⟨z, rfl, hz⟩, rfl⟩
        have hz0 : (0 ≤ z) = True := by simp [hz.2 HIN.out]
        clear hz HIX
        go_wp2_with fail
        refine (HRG.out _).mono ?_
        rintro e w5 ⟨rfl, hB5⟩
        have HXn := Lib.hid (H2.out.below hB5)
        have HKn := Lib.hid (HK1.out.trans (RK.below (b := b) (v := v) hB5))
        clear hB5 HRG
        go_wp2_with fail
        refine (HPB.out (rg c.toNat c.toNat) _ _ HXn.out).mono ?_
        rintro e w6 ⟨rfl, v6, x6, k6⟩
        have HX6 := Lib.hid x6
        have HK6 := Lib.hid (HKn.out.trans k6)
        clear x6 k6
        go_wp2
        go_end0
        exact ROut.yes HR.out HX6.out HK6.out
       ·have HIN := Lib.hid hin
        have HE3 : Hid (escP s row r a = if c = 123 then .error (43, a) else .error (40, a)) := Lib.hid (by rw [HE2.out, if_neg h110, if_neg (by rintro (q | q); exact h47 q; exact hin q)])
        clear HE2 h110 h47 hin
        by_cases h123 : c = 123
        ·have q123 := u8_is h123 123 rfl
         have hr : unitR (escP s row r a) = .error (43, a) := by rw [HE3.out, if_pos h123]; rfl
         have HR := Lib.hid hr
         clear hr HE3 h123
         go_wp2_with fail
         refine (HIX.out _).mono ?_
         rintro e w4 ⟨⟨z, rfl, hz⟩, rfl⟩
         have hz0 : (0 ≤ z) = False := by simp; exact Int.not_le.1 (fun q => HIN.out (hz.1 q))
         clear hz HIX
         go_wp2_with fail
         refine (HW.out 43 _).mono ?_
         rintro e wz ⟨rfl, rfl⟩
         unfold Pan
         go_wp2
         exact ⟨rfl, ROut.no (HR.out) HK1.out⟩
        ·have q123 := u8_no h123 123 rfl
         have hr : unitR (escP s row r a) = .error (40, a) := by rw [HE3.out, if_neg h123]; rfl
         have HR := Lib.hid hr
         clear hr HE3 h123
         go_wp2_with fail
         refine (HIX.out _).mono ?_
         rintro e w4 ⟨⟨z, rfl, hz⟩, rfl⟩
         have hz0 : (0 ≤ z) = False := by simp; exact Int.not_le.1 (fun q => HIN.out (hz.1 q))
         clear hz HIX
         go_wp2_with fail
         refine (HW.out 40 _).mono ?_
         rintro e wz ⟨rfl, rfl⟩
         unfold Pan
         go_wp2
         exact ⟨rfl, ROut.no (HR.out) HK1.out⟩
    ·by_cases h110 : c = 110
     ·have q110 := u8_is h110 110 rfl
      have hr : unitR (escP s row r a) = .ok ((), (r.to (r.p + 1)).put (byNd (inS ⟨#[10]⟩ 1))) := by rw [HE2.out, if_pos h110, bytes_lf]; rfl
      have HR := Lib.hid hr
      have hof := fun w => ofTo ⟨#[10]⟩ (by decide) w
      have HOF := Lib.hid hof
      clear hr hof HE2 HIX h110
      go_wp2_with fail
      refine (HOF.out _).mono ?_
      rintro e w5 ⟨rfl, hB5⟩
      have HXn := Lib.hid (H2.out.below hB5)
      have HKn := Lib.hid (HK1.out.trans (RK.below (b := b) (v := v) hB5))
      clear hB5 HOF
      go_wp2_with fail
      refine (HPB.out (inS ⟨#[10]⟩ 1) _ _ HXn.out).mono ?_
      rintro e w6 ⟨rfl, v6, x6, k6⟩
      have HX6 := Lib.hid x6
      have HK6 := Lib.hid (HKn.out.trans k6)
      clear x6 k6
      go_wp2
      go_end0
      exact ROut.yes HR.out HX6.out HK6.out
     ·have q110 := u8_no h110 110 rfl
      by_cases h47 : c = 47
      ·have q47 := u8_is h47 47 rfl
       have hr : unitR (escP s row r a) = .ok ((), (r.to (r.p + 1)).put (byNd (rg c.toNat c.toNat))) := by rw [HE2.out, if_neg h110, if_pos (.inl h47)]; rfl
       have HR := Lib.hid hr
       have HRG := Lib.hid (rangeTo c.toNat c.toNat (by omega) (by omega))
       unfold RangeTo at HRG
       clear hr HE2 HIX h110 h47
       go_wp2_with fail
       refine (HRG.out _).mono ?_
       rintro e w5 ⟨rfl, hB5⟩
       have HXn := Lib.hid (H2.out.below hB5)
       have HKn := Lib.hid (HK1.out.trans (RK.below (b := b) (v := v) hB5))
       clear hB5 HRG
       go_wp2_with fail
       refine (HPB.out (rg c.toNat c.toNat) _ _ HXn.out).mono ?_
       rintro e w6 ⟨rfl, v6, x6, k6⟩
       have HX6 := Lib.hid x6
       have HK6 := Lib.hid (HKn.out.trans k6)
       clear x6 k6
       go_wp2
       go_end0
       exact ROut.yes HR.out HX6.out HK6.out
      ·have q47 := u8_no h47 47 rfl
       by_cases hin : c ∈ ([46, 91, 92, 42, 94, 36] : List UInt8)
       ·have hr : unitR (escP s row r a) = .ok ((), (r.to (r.p + 1)).put (byNd (rg c.toNat c.toNat))) := by rw [HE2.out, if_neg h110, if_pos (.inr hin)]; rfl
        have HR := Lib.hid hr
        have HIN := Lib.hid hin
        have HRG := Lib.hid (rangeTo c.toNat c.toNat (by omega) (by omega))
        unfold RangeTo at HRG
        clear hr HE2 h110 h47 hin
        go_wp2_with fail
        refine (HIX.out _).mono ?_
        rintro e w4 ⟨⟨z, rfl, hz⟩, rfl⟩
        have hz0 : (0 ≤ z) = True := by simp [hz.2 HIN.out]
        clear hz HIX
        go_wp2_with fail
        refine (HRG.out _).mono ?_
        rintro e w5 ⟨rfl, hB5⟩
        have HXn := Lib.hid (H2.out.below hB5)
        have HKn := Lib.hid (HK1.out.trans (RK.below (b := b) (v := v) hB5))
        clear hB5 HRG
        go_wp2_with fail
        refine (HPB.out (rg c.toNat c.toNat) _ _ HXn.out).mono ?_
        rintro e w6 ⟨rfl, v6, x6, k6⟩
        have HX6 := Lib.hid x6
        have HK6 := Lib.hid (HKn.out.trans k6)
        clear x6 k6
        go_wp2
        go_end0
        exact ROut.yes HR.out HX6.out HK6.out
       ·have HIN := Lib.hid hin
        have HE3 : Hid (escP s row r a = if c = 123 then .error (43, a) else .error (40, a)) := Lib.hid (by rw [HE2.out, if_neg h110, if_neg (by rintro (q | q); exact h47 q; exact hin q)])
        clear HE2 h110 h47 hin
        by_cases h123 : c = 123
        ·have q123 := u8_is h123 123 rfl
         have hr : unitR (escP s row r a) = .error (43, a) := by rw [HE3.out, if_pos h123]; rfl
         have HR := Lib.hid hr
         clear hr HE3 h123
         go_wp2_with fail
         refine (HIX.out _).mono ?_
         rintro e w4 ⟨⟨z, rfl, hz⟩, rfl⟩
         have hz0 : (0 ≤ z) = False := by simp; exact Int.not_le.1 (fun q => HIN.out (hz.1 q))
         clear hz HIX
         go_wp2_with fail
         refine (HW.out 43 _).mono ?_
         rintro e wz ⟨rfl, rfl⟩
         unfold Pan
         go_wp2
         exact ⟨rfl, ROut.no (HR.out) HK1.out⟩
        ·have q123 := u8_no h123 123 rfl
         have hr : unitR (escP s row r a) = .error (40, a) := by rw [HE3.out, if_neg h123]; rfl
         have HR := Lib.hid hr
         clear hr HE3 h123
         go_wp2_with fail
         refine (HIX.out _).mono ?_
         rintro e w4 ⟨⟨z, rfl, hz⟩, rfl⟩
         have hz0 : (0 ≤ z) = False := by simp; exact Int.not_le.1 (fun q => HIN.out (hz.1 q))
         clear hz HIX
         go_wp2_with fail
         refine (HW.out 40 _).mono ?_
         rintro e wz ⟨rfl, rfl⟩
         unfold Pan
         go_wp2
         exact ⟨rfl, ROut.no (HR.out) HK1.out⟩
end
end Go.Proofs.YtdjcgjkbecncaaaGreatDoor
namespace Go.Proofs.YtdjcgjkbecncaaaGreatDoor
theorem wp_scope_fwd {P : Program} {a : Act} {w : World} {Q : Exit → Act → World → Prop} {c rest : Code} (l : Nat) (hf : findLabel c l = some rest)
  (first : c.wp P (Exit.jump l (fun a w => rest.wp P (Exit.noGoto Q) a w) Q) a w) : (Code.scope c).wp P Q a w := by
 refine wp_scope_jumps l (fun a w => rest.wp P (Exit.noGoto Q) a w) (fun _ _ => 0) hf first ?_
 intro a w h
 refine Code.wp_mono ?_ h
 intro e a w hq
 cases e <;> first | exact hq | exact False.elim hq
theorem jump_ret {l : Nat} {J : Act → World → Prop} {Q : Exit → Act → World → Prop} {a : Act} {w : World} : Exit.jump l J Q .ret a w = Q .ret a w := rfl
end Go.Proofs.YtdjcgjkbecncaaaGreatDoor
