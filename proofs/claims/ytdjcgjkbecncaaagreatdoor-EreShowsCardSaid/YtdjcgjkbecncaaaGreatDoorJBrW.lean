/- A reader: an atom and its number of times, over a contract of row: the walk. -/
import Derived.Test.YtdjcgjkbecncaaaGreatDoorJScope
import Derived.Deep.RegionHeld3
set_option linter.unusedVariables false
set_option linter.unusedSimpArgs false
set_option maxRecDepth 100000
set_option maxHeartbeats 40000000
namespace Go.Proofs.YtdjcgjkbecncaaaGreatDoor
open Go.RowKit
section
variable {b : Nat} {s : List UInt8} {r : BRd} {v : Value}
theorem item_dot (row : BRd → Except Er (Bool × BRd)) (hd : s[r.p]? = some 46) (w : World) (h : RX w b s r v) (hF : FB w b v) :
  Calls Tryz.prog 170 #[.pointer (some ⟨b, 0, none⟩)] w (ROut w b s v (fun i : Int => .int .i64 i) (itemP s row r)) := by
 have hs := h.s
 have hplt := (List.getElem?_eq_some_iff.1 hd).1
 have c0 : w.cell? ⟨b, 0, none⟩ = some (.string ⟨s.toArray⟩) := (h.cell 0).trans rfl
 have c1 : w.cell? ⟨b, 1, none⟩ = some (.int .i64 (r.p : Int)) := (h.cell 1).trans rfl
 have f1 := h.fz 1
 have hx : ∀ W : World, (Instr.index 9 (.string ⟨s.toArray⟩) (.int .i64 (r.p : Int))).run Tryz.prog W = .ok (.int .u8 46) W := fun W => ix_c h.tx 46 hd W
 have ew : IntKind.i64.wrap ((r.p : Int) + 1) = (r.p : Int) + 1 := by simp [IntKind.wrap, IntKind.signed, IntKind.bits]; omega
 have h1 := h.row_but (j := 1) (.int .i64 ((r.p : Int) + 1)) (r.to (r.p + 1)) (by rw [show (r.p : Int) + 1 = ((r.p + 1 : Nat) : Int) by omega]; rfl) rfl hplt
 have d0 : World.cell? (w.setCell ⟨b, 1, none⟩ (.int .i64 ((r.p : Int) + 1))) ⟨b, 0, none⟩ = some (.string ⟨s.toArray⟩) := (h1.cell 0).trans rfl
 have k1 := (RK.refl (w := w) (b := b) (v := v)).set 1 (.int .i64 ((r.p : Int) + 1))
 obtain ⟨r2, hr2⟩ : ∃ r2, r2 = (r.to (r.p + 1)).put (byNd fun _ => true) := ⟨_, rfl⟩
 have HR : Hid (itemP s row r = behP s r2) := Lib.hid (by unfold itemP; rw [hd, hr2]; rfl)
 have hnt := fun w => not_c (fun _ => false) w
 rw [show (fun i => !(fun _ => false) i) = (fun _ : Nat => true) from rfl] at hnt
 rw [sv_none] at hnt
 have HN := Lib.hid hnt
 have HPB := Lib.hid fun w1 v1 (h1 : RX w1 b s (r.to (r.p + 1)) v1) => putbytes_c (fun _ => true) w1 h1
 rw [← hr2] at HPB
 have HFB := Lib.hid hF
 have H1 := Lib.hid h1
 have HK1 := Lib.hid k1
 clear h h1 k1 hF hd hnt hr2
 go_enter Tryz.func170, Tryz.ntmps170
 go_wp2_with fail
 refine wp_scope_fwd 0 rfl ?_
 go_wp2_with fail
 refine (HN.out _).mono ?_
 rintro e w1 ⟨rfl, hB1⟩
 have X1 := Lib.hid (H1.out.below hB1)
 have K1 := Lib.hid (HK1.out.trans (RK.below hB1))
 clear hB1 HN H1 HK1
 go_wp2_with fail
 refine (HPB.out _ _ X1.out).mono ?_
 rintro e w2 ⟨rfl, v2, x2, k2'⟩
 have k2 := K1.out.trans k2'
 clear k2' HPB X1 K1 c0 c1 f1 d0
 go_wp2
 go_step3
 refine ⟨rfl, ?_⟩
 change Code.wp _ _ _ _ _
 have F2 := HFB.out.step k2
 obtain ⟨o2, cap2, rfl⟩ := x2.slice
 have d2 : w2.cell? ⟨b, 2, none⟩ = some (.slice o2 r2.l.length cap2) := (x2.cell 2).trans rfl
 have hl2 := x2.l
 have ewl : IntKind.i64.wrap ((r2.l.length : Int) - 1) = (r2.l.length : Int) - 1 := by simp [IntKind.wrap, IntKind.signed, IntKind.bits]; omega
 have hit := istimes_c w2 x2
 cases hti : isTimesP s r2.p with
 | false =>
  rw [hti] at hit
  have hr : itemP s row r = .ok ((r2.l.length : Int) - 1, r2) := HR.out.trans (by unfold behP; rw [hti]; rfl)
  have HRR := Lib.hid hr
  have HIT := Lib.hid hit
  have HX2 := Lib.hid x2
  have HK2 := Lib.hid k2
  clear hr hit x2 k2 F2 hti
  go_wp2_with fail
  refine HIT.out.mono ?_
  rintro e w3 ⟨rfl, hB3⟩
  have HX3 := Lib.hid (HX2.out.below hB3)
  have HK3 := Lib.hid (HK2.out.trans (RK.below hB3))
  clear hB3 HIT HX2 HK2
  go_wp2
  rw [Exit.noGoto_ret]
  refine bodyPost_ret (v := .int .i64 ((r2.l.length : Int) - 1)) (by simp [results, Tryz.results170, go_sem]) rfl ?_
  exact ROut.yes HRR.out HX3.out HK3.out
 | true =>
  rw [hti] at hit
  have HIT := Lib.hid hit
  have HX2 := Lib.hid x2
  have HK2 := Lib.hid k2
  have HTI := Lib.hid hti
  have HSY := Lib.hid F2.sy
  have HBS := Lib.hid F2.bs
  clear hit x2 k2 F2 hti
  go_wp2_with fail
  refine HIT.out.mono ?_
  rintro e w3 ⟨rfl, hB3⟩
  have x3 := HX2.out.below hB3
  have k3 := HK2.out.trans (RK.below hB3)
  have hsy3 := HSY.out.same (hB3.block _ HSY.out.lt)
  have ht := btimes_c w3 x3.tx hsy3 HBS.out
  have HT := Lib.hid ht
  have HX3 := Lib.hid x3
  have HK3 := Lib.hid k3
  clear x3 k3 hsy3 ht hB3 HIT HX2 HK2 HSY HBS d2
  go_wp2_with fail
  refine HT.out.mono ?_
  intro e w4 hout
  clear HT
  cases htp : timesP s r2.p with
  | none =>
   rw [TOut.no htp] at hout
   obtain ⟨rfl, hg4⟩ := hout
   have hr : itemP s row r = .error (43, r2.p) := HR.out.trans (by unfold behP; rw [HTI.out, htp]; rfl)
   unfold Pan
   go_wp2
   exact ⟨rfl, ROut.no (v' := .slice o2 r2.l.length cap2) hr (HK3.out.trans ⟨But.grown hg4 (.inl rfl), .inl rfl⟩)⟩
  | some q =>
   obtain ⟨ta, tb, tk⟩ := q
   rw [TOut.yes htp] at hout
   obtain ⟨rfl, m4⟩ := hout
   have x4 := HX3.out.mv m4
   have k4 := HK3.out.trans (RK.mv (v := .slice o2 r2.l.length cap2) m4)
   have hit4 := istimes_c w4 x4
   have c4 : w4.cell? ⟨b, 1, none⟩ = some (.int .i64 (tk : Int)) := (x4.cell 1).trans rfl
   clear HX3 HK3
   cases ht4 : isTimesP s tk with
   | true =>
    have ht4' : isTimesP s (r2.to tk).p = true := ht4
    rw [ht4'] at hit4
    have hr : itemP s row r = .error (43, tk) := HR.out.trans (by unfold behP; rw [HTI.out, htp]; simp only; rw [ht4]; rfl)
    have HIT4 := Lib.hid hit4
    have HRR := Lib.hid hr
    have K4 := Lib.hid k4
    have HW := Lib.hid fun w => wrong_c 43 (tk : Int) w
    have X4 := Lib.hid x4
    clear hit4 hr k4 m4 x4 htp ht4 ht4'
    go_wp2_with fail
    refine HIT4.out.mono ?_
    rintro e w5 ⟨rfl, hB5⟩
    have c5 : w5.cell? ⟨b, 1, none⟩ = some (.int .i64 (tk : Int)) := ((X4.out.below hB5).cell 1).trans rfl
    have K5 := Lib.hid (K4.out.trans (RK.below hB5))
    clear hB5
    go_wp2_with fail
    refine (HW.out _).mono ?_
    rintro e w6 ⟨rfl, rfl⟩
    unfold Pan
    go_wp2
    exact ⟨rfl, ROut.no HRR.out K5.out⟩
   | false =>
    have ht4' : isTimesP s (r2.to tk).p = false := ht4
    rw [ht4'] at hit4
    have hr : itemP s row r = .ok ((((r2.to tk).put ⟨6, 0, 0, 0, 0, (r2.l.length : Int) - 1, 0, ta, tb, 0⟩).l.length : Int) - 1, (r2.to tk).put ⟨6, 0, 0, 0, 0, (r2.l.length : Int) - 1, 0, ta, tb, 0⟩) := HR.out.trans (by unfold behP; rw [HTI.out, htp]; simp only; rw [ht4]; rfl)
    have HPT := Lib.hid fun w1 v1 (h1 : RX w1 b s (r2.to tk) v1) => rput_c ⟨6, 0, 0, 0, 0, (r2.l.length : Int) - 1, 0, ta, tb, 0⟩ w1 h1
    have HIT4 := Lib.hid hit4
    have HRR := Lib.hid hr
    have K4 := Lib.hid k4
    have X4 := Lib.hid x4
    clear hit4 hr k4 m4 x4 htp ht4 ht4' c4
    simp only at HPT
    go_wp2_with fail
    refine HIT4.out.mono ?_
    rintro e w5 ⟨rfl, hB5⟩
    have X5 := Lib.hid (X4.out.below hB5)
    have K5 := Lib.hid (K4.out.trans (RK.below hB5))
    clear hB5 HIT4 X4 K4
    go_wp2_with fail
    refine (HPT.out _ _ X5.out).mono ?_
    rintro e w6 ⟨rfl, v6, x6, k6⟩
    have X6 := Lib.hid x6
    have K6 := Lib.hid (K5.out.trans k6)
    clear x6 k6 HPT
    generalize (((r2.to tk).put ⟨6, 0, 0, 0, 0, (r2.l.length : Int) - 1, 0, ta, tb, 0⟩).l.length : Int) - 1 = res at *
    go_wp2
    rw [Exit.noGoto_ret]
    refine bodyPost_ret (v := .int .i64 res) (by simp [results, Tryz.results170, go_sem]) rfl ?_
    exact ROut.yes HRR.out X6.out K6.out
end
end Go.Proofs.YtdjcgjkbecncaaaGreatDoor
namespace Go.Proofs.YtdjcgjkbecncaaaGreatDoor
open Go.RowKit
section
variable {b : Nat} {s : List UInt8} {r : BRd} {v : Value}
theorem item_list (row : BRd → Except Er (Bool × BRd)) (hd : s[r.p]? = some 91) (w : World) (h : RX w b s r v) (hF : FB w b v) :
  Calls Tryz.prog 170 #[.pointer (some ⟨b, 0, none⟩)] w (ROut w b s v (fun i : Int => .int .i64 i) (itemP s row r)) := by
 have hs := h.s
 have hplt := (List.getElem?_eq_some_iff.1 hd).1
 have c0 : w.cell? ⟨b, 0, none⟩ = some (.string ⟨s.toArray⟩) := (h.cell 0).trans rfl
 have c1 : w.cell? ⟨b, 1, none⟩ = some (.int .i64 (r.p : Int)) := (h.cell 1).trans rfl
 have f1 := h.fz 1
 have hx : ∀ W : World, (Instr.index 9 (.string ⟨s.toArray⟩) (.int .i64 (r.p : Int))).run Tryz.prog W = .ok (.int .u8 91) W := fun W => ix_c h.tx 91 hd W
 have ew : IntKind.i64.wrap ((r.p : Int) + 1) = (r.p : Int) + 1 := by simp [IntKind.wrap, IntKind.signed, IntKind.bits]; omega
 have h1 := h.row_but (j := 1) (.int .i64 ((r.p : Int) + 1)) (r.to (r.p + 1)) (by rw [show (r.p : Int) + 1 = ((r.p + 1 : Nat) : Int) by omega]; rfl) rfl hplt
 have d0 : World.cell? (w.setCell ⟨b, 1, none⟩ (.int .i64 ((r.p : Int) + 1))) ⟨b, 0, none⟩ = some (.string ⟨s.toArray⟩) := (h1.cell 0).trans rfl
 have k1 := (RK.refl (w := w) (b := b) (v := v)).set 1 (.int .i64 ((r.p : Int) + 1))
 have hbr := bracketr_c (r := r.to (r.p + 1)) r.p (Nat.le_of_lt hplt) _ h1 (hF.step k1).m
 have HFB := Lib.hid hF
 have HK1 := Lib.hid k1
 cases hq : brkP (s.drop r.p) with
 | none =>
  rw [hq] at hbr
  have hr : itemP s row r = .error (42, r.p) := by unfold itemP; rw [hd]; simp only; rw [if_neg (by decide), if_pos trivial, hq]
  have HRR := Lib.hid hr
  have HBR := Lib.hid hbr
  clear hr hbr hq h h1 k1 hF hd
  go_enter Tryz.func170, Tryz.ntmps170
  go_wp2_with fail
  refine wp_scope_fwd 0 rfl ?_
  go_wp2_with fail
  refine HBR.out.mono ?_
  rintro e w2 ⟨rfl, v2, k2⟩
  unfold Pan
  go_wp2
  exact ⟨rfl, ROut.no HRR.out (HK1.out.trans k2)⟩
 | some q =>
  obtain ⟨G, n⟩ := q
  rw [hq] at hbr
  obtain ⟨r2, hr2⟩ : ∃ r2, r2 = (r.to (r.p + n)).put (byNd G) := ⟨_, rfl⟩
  have HR : Hid (itemP s row r = behP s r2) := Lib.hid (by unfold itemP; rw [hd]; simp only; rw [if_neg (by decide), if_pos trivial, hq, hr2])
  have hbr2 : Calls Tryz.prog 185 #[.pointer (some ⟨b, 0, none⟩), .int .i64 (r.p : Int)] (w.setCell ⟨b, 1, none⟩ (.int .i64 ((r.p : Int) + 1))) (ROut (w.setCell ⟨b, 1, none⟩ (.int .i64 ((r.p : Int) + 1))) b s v (fun _ : Unit => .tuple #[]) (.ok ((), r2))) := by rw [hr2]; exact hbr
  have HBR := Lib.hid hbr2
  clear hbr hbr2 hq h h1 k1 hF hd hr2
  go_enter Tryz.func170, Tryz.ntmps170
  go_wp2_with fail
  refine wp_scope_fwd 0 rfl ?_
  go_wp2_with fail
  refine HBR.out.mono ?_
  rintro e w2 ⟨rfl, v2, x2, k2'⟩
  have k2 := HK1.out.trans k2'
  clear k2' HBR HK1 c0 c1 f1 d0
  go_wp2
  go_step3
  refine ⟨rfl, ?_⟩
  change Code.wp _ _ _ _ _
  have F2 := HFB.out.step k2
  obtain ⟨o2, cap2, rfl⟩ := x2.slice
  have d2 : w2.cell? ⟨b, 2, none⟩ = some (.slice o2 r2.l.length cap2) := (x2.cell 2).trans rfl
  have hl2 := x2.l
  have ewl : IntKind.i64.wrap ((r2.l.length : Int) - 1) = (r2.l.length : Int) - 1 := by simp [IntKind.wrap, IntKind.signed, IntKind.bits]; omega
  have hit := istimes_c w2 x2
  cases hti : isTimesP s r2.p with
  | false =>
   rw [hti] at hit
   have hr : itemP s row r = .ok ((r2.l.length : Int) - 1, r2) := HR.out.trans (by unfold behP; rw [hti]; rfl)
   have HRR := Lib.hid hr
   have HIT := Lib.hid hit
   have HX2 := Lib.hid x2
   have HK2 := Lib.hid k2
   clear hr hit x2 k2 F2 hti
   go_wp2_with fail
   refine HIT.out.mono ?_
   rintro e w3 ⟨rfl, hB3⟩
   have HX3 := Lib.hid (HX2.out.below hB3)
   have HK3 := Lib.hid (HK2.out.trans (RK.below hB3))
   clear hB3 HIT HX2 HK2
   go_wp2
   rw [Exit.noGoto_ret]
   refine bodyPost_ret (v := .int .i64 ((r2.l.length : Int) - 1)) (by simp [results, Tryz.results170, go_sem]) rfl ?_
   exact ROut.yes HRR.out HX3.out HK3.out
  | true =>
   rw [hti] at hit
   have HIT := Lib.hid hit
   have HX2 := Lib.hid x2
   have HK2 := Lib.hid k2
   have HTI := Lib.hid hti
   have HSY := Lib.hid F2.sy
   have HBS := Lib.hid F2.bs
   clear hit x2 k2 F2 hti
   go_wp2_with fail
   refine HIT.out.mono ?_
   rintro e w3 ⟨rfl, hB3⟩
   have x3 := HX2.out.below hB3
   have k3 := HK2.out.trans (RK.below hB3)
   have hsy3 := HSY.out.same (hB3.block _ HSY.out.lt)
   have ht := btimes_c w3 x3.tx hsy3 HBS.out
   have HT := Lib.hid ht
   have HX3 := Lib.hid x3
   have HK3 := Lib.hid k3
   clear x3 k3 hsy3 ht hB3 HIT HX2 HK2 HSY HBS d2
   go_wp2_with fail
   refine HT.out.mono ?_
   intro e w4 hout
   clear HT
   cases htp : timesP s r2.p with
   | none =>
    rw [TOut.no htp] at hout
    obtain ⟨rfl, hg4⟩ := hout
    have hr : itemP s row r = .error (43, r2.p) := HR.out.trans (by unfold behP; rw [HTI.out, htp]; rfl)
    unfold Pan
    go_wp2
    exact ⟨rfl, ROut.no (v' := .slice o2 r2.l.length cap2) hr (HK3.out.trans ⟨But.grown hg4 (.inl rfl), .inl rfl⟩)⟩
   | some q =>
    obtain ⟨ta, tb, tk⟩ := q
    rw [TOut.yes htp] at hout
    obtain ⟨rfl, m4⟩ := hout
    have x4 := HX3.out.mv m4
    have k4 := HK3.out.trans (RK.mv (v := .slice o2 r2.l.length cap2) m4)
    have hit4 := istimes_c w4 x4
    have c4 : w4.cell? ⟨b, 1, none⟩ = some (.int .i64 (tk : Int)) := (x4.cell 1).trans rfl
    clear HX3 HK3
    cases ht4 : isTimesP s tk with
    | true =>
     have ht4' : isTimesP s (r2.to tk).p = true := ht4
     rw [ht4'] at hit4
     have hr : itemP s row r = .error (43, tk) := HR.out.trans (by unfold behP; rw [HTI.out, htp]; simp only; rw [ht4]; rfl)
     have HIT4 := Lib.hid hit4
     have HRR := Lib.hid hr
     have K4 := Lib.hid k4
     have HW := Lib.hid fun w => wrong_c 43 (tk : Int) w
     have X4 := Lib.hid x4
     clear hit4 hr k4 m4 x4 htp ht4 ht4'
     go_wp2_with fail
     refine HIT4.out.mono ?_
     rintro e w5 ⟨rfl, hB5⟩
     have c5 : w5.cell? ⟨b, 1, none⟩ = some (.int .i64 (tk : Int)) := ((X4.out.below hB5).cell 1).trans rfl
     have K5 := Lib.hid (K4.out.trans (RK.below hB5))
     clear hB5
     go_wp2_with fail
     refine (HW.out _).mono ?_
     rintro e w6 ⟨rfl, rfl⟩
     unfold Pan
     go_wp2
     exact ⟨rfl, ROut.no HRR.out K5.out⟩
    | false =>
     have ht4' : isTimesP s (r2.to tk).p = false := ht4
     rw [ht4'] at hit4
     have hr : itemP s row r = .ok ((((r2.to tk).put ⟨6, 0, 0, 0, 0, (r2.l.length : Int) - 1, 0, ta, tb, 0⟩).l.length : Int) - 1, (r2.to tk).put ⟨6, 0, 0, 0, 0, (r2.l.length : Int) - 1, 0, ta, tb, 0⟩) := HR.out.trans (by unfold behP; rw [HTI.out, htp]; simp only; rw [ht4]; rfl)
     have HPT := Lib.hid fun w1 v1 (h1 : RX w1 b s (r2.to tk) v1) => rput_c ⟨6, 0, 0, 0, 0, (r2.l.length : Int) - 1, 0, ta, tb, 0⟩ w1 h1
     have HIT4 := Lib.hid hit4
     have HRR := Lib.hid hr
     have K4 := Lib.hid k4
     have X4 := Lib.hid x4
     clear hit4 hr k4 m4 x4 htp ht4 ht4' c4
     simp only at HPT
     go_wp2_with fail
     refine HIT4.out.mono ?_
     rintro e w5 ⟨rfl, hB5⟩
     have X5 := Lib.hid (X4.out.below hB5)
     have K5 := Lib.hid (K4.out.trans (RK.below hB5))
     clear hB5 HIT4 X4 K4
     go_wp2_with fail
     refine (HPT.out _ _ X5.out).mono ?_
     rintro e w6 ⟨rfl, v6, x6, k6⟩
     have X6 := Lib.hid x6
     have K6 := Lib.hid (K5.out.trans k6)
     clear x6 k6 HPT
     generalize (((r2.to tk).put ⟨6, 0, 0, 0, 0, (r2.l.length : Int) - 1, 0, ta, tb, 0⟩).l.length : Int) - 1 = res at *
     go_wp2
     rw [Exit.noGoto_ret]
     refine bodyPost_ret (v := .int .i64 res) (by simp [results, Tryz.results170, go_sem]) rfl ?_
     exact ROut.yes HRR.out X6.out K6.out
theorem item_esc (row : BRd → Except Er (Bool × BRd)) (hrow : r.g < 9 → RowC b s (r.g + 1) row) (hen : r.g ≤ 9) (hd : s[r.p]? = some 92) (w : World) (h : RX w b s r v) (hF : FB w b v) :
  Calls Tryz.prog 170 #[.pointer (some ⟨b, 0, none⟩)] w (ROut w b s v (fun i : Int => .int .i64 i) (itemP s row r)) := by
 have hs := h.s
 have hplt := (List.getElem?_eq_some_iff.1 hd).1
 have c0 : w.cell? ⟨b, 0, none⟩ = some (.string ⟨s.toArray⟩) := (h.cell 0).trans rfl
 have c1 : w.cell? ⟨b, 1, none⟩ = some (.int .i64 (r.p : Int)) := (h.cell 1).trans rfl
 have f1 := h.fz 1
 have hx : ∀ W : World, (Instr.index 9 (.string ⟨s.toArray⟩) (.int .i64 (r.p : Int))).run Tryz.prog W = .ok (.int .u8 92) W := fun W => ix_c h.tx 92 hd W
 have ew : IntKind.i64.wrap ((r.p : Int) + 1) = (r.p : Int) + 1 := by simp [IntKind.wrap, IntKind.signed, IntKind.bits]; omega
 have h1 := h.row_but (j := 1) (.int .i64 ((r.p : Int) + 1)) (r.to (r.p + 1)) (by rw [show (r.p : Int) + 1 = ((r.p + 1 : Nat) : Int) by omega]; rfl) rfl hplt
 have d0 : World.cell? (w.setCell ⟨b, 1, none⟩ (.int .i64 ((r.p : Int) + 1))) ⟨b, 0, none⟩ = some (.string ⟨s.toArray⟩) := (h1.cell 0).trans rfl
 have k1 := (RK.refl (w := w) (b := b) (v := v)).set 1 (.int .i64 ((r.p : Int) + 1))
 have hesc := escape_c (r := r.to (r.p + 1)) row r.p hrow hen _ h1 (hF.step k1)
 have hI : itemP s row r = (match escP s row (r.to (r.p + 1)) r.p with
  | .error e => .error e
  | .ok q => behP s q) := by unfold itemP; rw [hd]; simp only; rw [if_neg (by decide), if_neg (by decide), if_pos trivial]; rfl
 have HFB := Lib.hid hF
 have HK1 := Lib.hid k1
 cases hq : escP s row (r.to (r.p + 1)) r.p with
 | error er =>
  obtain ⟨z, ea⟩ := er
  rw [hq] at hesc hI
  have HRR : Hid (itemP s row r = .error (z, ea)) := Lib.hid hI
  have HBR := Lib.hid hesc
  clear hI hesc hq h h1 k1 hF hd hrow
  go_enter Tryz.func170, Tryz.ntmps170
  go_wp2_with fail
  refine wp_scope_fwd 0 rfl ?_
  go_wp2_with fail
  refine HBR.out.mono ?_
  rintro e w2 ⟨rfl, v2, k2⟩
  unfold Pan
  go_wp2
  exact ⟨rfl, ROut.no HRR.out (HK1.out.trans k2)⟩
 | ok r2 =>
  rw [hq] at hesc hI
  have HR : Hid (itemP s row r = behP s r2) := Lib.hid hI
  have HBR := Lib.hid hesc
  clear hI hesc hq h h1 k1 hF hd hrow
  go_enter Tryz.func170, Tryz.ntmps170
  go_wp2_with fail
  refine wp_scope_fwd 0 rfl ?_
  go_wp2_with fail
  refine HBR.out.mono ?_
  rintro e w2 ⟨rfl, v2, x2, k2'⟩
  have k2 := HK1.out.trans k2'
  clear k2' HBR HK1 c0 c1 f1 d0
  go_wp2
  go_step3
  refine ⟨rfl, ?_⟩
  change Code.wp _ _ _ _ _
  have F2 := HFB.out.step k2
  obtain ⟨o2, cap2, rfl⟩ := x2.slice
  have d2 : w2.cell? ⟨b, 2, none⟩ = some (.slice o2 r2.l.length cap2) := (x2.cell 2).trans rfl
  have hl2 := x2.l
  have ewl : IntKind.i64.wrap ((r2.l.length : Int) - 1) = (r2.l.length : Int) - 1 := by simp [IntKind.wrap, IntKind.signed, IntKind.bits]; omega
  have hit := istimes_c w2 x2
  cases hti : isTimesP s r2.p with
  | false =>
   rw [hti] at hit
   have hr : itemP s row r = .ok ((r2.l.length : Int) - 1, r2) := HR.out.trans (by unfold behP; rw [hti]; rfl)
   have HRR := Lib.hid hr
   have HIT := Lib.hid hit
   have HX2 := Lib.hid x2
   have HK2 := Lib.hid k2
   clear hr hit x2 k2 F2 hti
   go_wp2_with fail
   refine HIT.out.mono ?_
   rintro e w3 ⟨rfl, hB3⟩
   have HX3 := Lib.hid (HX2.out.below hB3)
   have HK3 := Lib.hid (HK2.out.trans (RK.below hB3))
   clear hB3 HIT HX2 HK2
   go_wp2
   rw [Exit.noGoto_ret]
   refine bodyPost_ret (v := .int .i64 ((r2.l.length : Int) - 1)) (by simp [results, Tryz.results170, go_sem]) rfl ?_
   exact ROut.yes HRR.out HX3.out HK3.out
  | true =>
   rw [hti] at hit
   have HIT := Lib.hid hit
   have HX2 := Lib.hid x2
   have HK2 := Lib.hid k2
   have HTI := Lib.hid hti
   have HSY := Lib.hid F2.sy
   have HBS := Lib.hid F2.bs
   clear hit x2 k2 F2 hti
   go_wp2_with fail
   refine HIT.out.mono ?_
   rintro e w3 ⟨rfl, hB3⟩
   have x3 := HX2.out.below hB3
   have k3 := HK2.out.trans (RK.below hB3)
   have hsy3 := HSY.out.same (hB3.block _ HSY.out.lt)
   have ht := btimes_c w3 x3.tx hsy3 HBS.out
   have HT := Lib.hid ht
   have HX3 := Lib.hid x3
   have HK3 := Lib.hid k3
   clear x3 k3 hsy3 ht hB3 HIT HX2 HK2 HSY HBS d2
   go_wp2_with fail
   refine HT.out.mono ?_
   intro e w4 hout
   clear HT
   cases htp : timesP s r2.p with
   | none =>
    rw [TOut.no htp] at hout
    obtain ⟨rfl, hg4⟩ := hout
    have hr : itemP s row r = .error (43, r2.p) := HR.out.trans (by unfold behP; rw [HTI.out, htp]; rfl)
    unfold Pan
    go_wp2
    exact ⟨rfl, ROut.no (v' := .slice o2 r2.l.length cap2) hr (HK3.out.trans ⟨But.grown hg4 (.inl rfl), .inl rfl⟩)⟩
   | some q =>
    obtain ⟨ta, tb, tk⟩ := q
    rw [TOut.yes htp] at hout
    obtain ⟨rfl, m4⟩ := hout
    have x4 := HX3.out.mv m4
    have k4 := HK3.out.trans (RK.mv (v := .slice o2 r2.l.length cap2) m4)
    have hit4 := istimes_c w4 x4
    have c4 : w4.cell? ⟨b, 1, none⟩ = some (.int .i64 (tk : Int)) := (x4.cell 1).trans rfl
    clear HX3 HK3
    cases ht4 : isTimesP s tk with
    | true =>
     have ht4' : isTimesP s (r2.to tk).p = true := ht4
     rw [ht4'] at hit4
     have hr : itemP s row r = .error (43, tk) := HR.out.trans (by unfold behP; rw [HTI.out, htp]; simp only; rw [ht4]; rfl)
     have HIT4 := Lib.hid hit4
     have HRR := Lib.hid hr
     have K4 := Lib.hid k4
     have HW := Lib.hid fun w => wrong_c 43 (tk : Int) w
     have X4 := Lib.hid x4
     clear hit4 hr k4 m4 x4 htp ht4 ht4'
     go_wp2_with fail
     refine HIT4.out.mono ?_
     rintro e w5 ⟨rfl, hB5⟩
     have c5 : w5.cell? ⟨b, 1, none⟩ = some (.int .i64 (tk : Int)) := ((X4.out.below hB5).cell 1).trans rfl
     have K5 := Lib.hid (K4.out.trans (RK.below hB5))
     clear hB5
     go_wp2_with fail
     refine (HW.out _).mono ?_
     rintro e w6 ⟨rfl, rfl⟩
     unfold Pan
     go_wp2
     exact ⟨rfl, ROut.no HRR.out K5.out⟩
    | false =>
     have ht4' : isTimesP s (r2.to tk).p = false := ht4
     rw [ht4'] at hit4
     have hr : itemP s row r = .ok ((((r2.to tk).put ⟨6, 0, 0, 0, 0, (r2.l.length : Int) - 1, 0, ta, tb, 0⟩).l.length : Int) - 1, (r2.to tk).put ⟨6, 0, 0, 0, 0, (r2.l.length : Int) - 1, 0, ta, tb, 0⟩) := HR.out.trans (by unfold behP; rw [HTI.out, htp]; simp only; rw [ht4]; rfl)
     have HPT := Lib.hid fun w1 v1 (h1 : RX w1 b s (r2.to tk) v1) => rput_c ⟨6, 0, 0, 0, 0, (r2.l.length : Int) - 1, 0, ta, tb, 0⟩ w1 h1
     have HIT4 := Lib.hid hit4
     have HRR := Lib.hid hr
     have K4 := Lib.hid k4
     have X4 := Lib.hid x4
     clear hit4 hr k4 m4 x4 htp ht4 ht4' c4
     simp only at HPT
     go_wp2_with fail
     refine HIT4.out.mono ?_
     rintro e w5 ⟨rfl, hB5⟩
     have X5 := Lib.hid (X4.out.below hB5)
     have K5 := Lib.hid (K4.out.trans (RK.below hB5))
     clear hB5 HIT4 X4 K4
     go_wp2_with fail
     refine (HPT.out _ _ X5.out).mono ?_
     rintro e w6 ⟨rfl, v6, x6, k6⟩
     have X6 := Lib.hid x6
     have K6 := Lib.hid (K5.out.trans k6)
     clear x6 k6 HPT
     generalize (((r2.to tk).put ⟨6, 0, 0, 0, 0, (r2.l.length : Int) - 1, 0, ta, tb, 0⟩).l.length : Int) - 1 = res at *
     go_wp2
     rw [Exit.noGoto_ret]
     refine bodyPost_ret (v := .int .i64 res) (by simp [results, Tryz.results170, go_sem]) rfl ?_
     exact ROut.yes HRR.out X6.out K6.out
end
end Go.Proofs.YtdjcgjkbecncaaaGreatDoor
namespace Go.Proofs.YtdjcgjkbecncaaaGreatDoor
open Go.RowKit
theorem bytes_one (c : UInt8) : byNd (inS ⟨#[c]⟩ 1) = byNd (rg c.toNat c.toNat) := by
 have e : inS ⟨#[c]⟩ 1 = rg c.toNat c.toNat := by
  funext i
  rw [Bool.eq_iff_iff]
  simp [inS, rg]
  omega
 rw [e]
theorem take_one {s : List UInt8} {p : Nat} {c : UInt8} (h : s[p]? = some c) : (s.drop p).take 1 = [c] := by
 obtain ⟨hp, rfl⟩ := List.getElem?_eq_some_iff.1 h
 rw [List.drop_eq_getElem_cons hp]
 rfl
section
variable {b : Nat} {s : List UInt8} {r : BRd} {v : Value}
theorem item_plain (row : BRd → Except Er (Bool × BRd)) (c : UInt8) (h46 : c ≠ 46) (h91 : c ≠ 91) (h92 : c ≠ 92) (h36 : c ≠ 36) (hd : s[r.p]? = some c) (w : World) (h : RX w b s r v) (hF : FB w b v) :
  Calls Tryz.prog 170 #[.pointer (some ⟨b, 0, none⟩)] w (ROut w b s v (fun i : Int => .int .i64 i) (itemP s row r)) := by
 have hs := h.s
 have hplt := (List.getElem?_eq_some_iff.1 hd).1
 have c0 : w.cell? ⟨b, 0, none⟩ = some (.string ⟨s.toArray⟩) := (h.cell 0).trans rfl
 have c1 : w.cell? ⟨b, 1, none⟩ = some (.int .i64 (r.p : Int)) := (h.cell 1).trans rfl
 have f1 := h.fz 1
 have hx := fun W : World => ix_c h.tx c hd W
 have ew : IntKind.i64.wrap ((r.p : Int) + 1) = (r.p : Int) + 1 := by simp [IntKind.wrap, IntKind.signed, IntKind.bits]; omega
 have h1 := h.row_but (j := 1) (.int .i64 ((r.p : Int) + 1)) (r.to (r.p + 1)) (by rw [show (r.p : Int) + 1 = ((r.p + 1 : Nat) : Int) by omega]; rfl) rfl hplt
 have d0 : World.cell? (w.setCell ⟨b, 1, none⟩ (.int .i64 ((r.p : Int) + 1))) ⟨b, 0, none⟩ = some (.string ⟨s.toArray⟩) := (h1.cell 0).trans rfl
 have k1 := (RK.refl (w := w) (b := b) (v := v)).set 1 (.int .i64 ((r.p : Int) + 1))
 have hsl0 := fun W => slice_two s hs r.p 1 (by omega) W
 rw [take_one hd] at hsl0
 have hsl : ∀ W : World, (Instr.slice 9 (.string ⟨s.toArray⟩) (some (.int .i64 (r.p : Int))) (some (.int .i64 ((r.p : Int) + 1))) none).run Tryz.prog W = .ok (.string ⟨#[c]⟩) W := fun W => hsl0 W
 have HOF := Lib.hid fun w => ofTo ⟨#[c]⟩ (by show 1 < _; decide) w
 obtain ⟨r2, hr2⟩ : ∃ r2, r2 = (r.to (r.p + 1)).put (byNd (inS ⟨#[c]⟩ 1)) := ⟨_, rfl⟩
 have HPB := Lib.hid fun w1 v1 (h1 : RX w1 b s (r.to (r.p + 1)) v1) => putbytes_c (inS ⟨#[c]⟩ 1) w1 h1
 rw [← hr2] at HPB
 have HFB := Lib.hid hF
 have X1 := Lib.hid h1
 have K1 := Lib.hid k1
 have HR : Hid (itemP s row r = behP s r2) := Lib.hid (by unfold itemP; rw [hd]; simp only; rw [if_neg h46, if_neg h91, if_neg h92, if_neg (fun q => h36 q.1), hr2, bytes_one])
 have q46 := u8_no h46 46 rfl
 have q91 := u8_no h91 91 rfl
 have q92 := u8_no h92 92 rfl
 have q36 := u8_no h36 36 rfl
 clear h h1 k1 hF hd hr2 hsl0 h46 h91 h92 h36
 obtain ⟨wd, hwd⟩ : ∃ wd, wd = w.setCell ⟨b, 1, none⟩ (.int .i64 ((r.p : Int) + 1)) := ⟨_, rfl⟩
 rw [← hwd] at X1 K1
 have HWD := Lib.hid hwd
 clear hwd
 go_enter Tryz.func170, Tryz.ntmps170
 go_wp2_with fail
 refine wp_scope_fwd 0 rfl ?_
 go_wp2_with fail
 rw [← HWD.out]
 clear HWD d0
 have p0 := (X1.out.cell 0).trans (rfl : _ = some (Value.string ⟨s.toArray⟩))
 have p1 : World.cell? wd ⟨b, 1, none⟩ = some (.int .i64 ((r.p : Int) + 1)) := (X1.out.cell 1).trans (by show some (Value.int .i64 (((r.p + 1 : Nat)) : Int)) = _; rw [Int.natCast_add]; rfl)
 go_wp2_with fail
 refine wp_region_held_drew (S := fun _ => True) (by kernel_rfl) trivial (fun _ => ?_)
 refine wpAnyH_take (i := 0) (v := ?_) rfl (by kernel_rfl) (by kernel_rfl) (by kernel_rfl) (fun _ _ _ h => h) (Or.inl ⟨by kernel_rfl, ?_⟩) (by trivial) ?_
 rotate_left
 ·(intro w hSw; (try dsimp only at hSw); go_simp); (try with_reducible rfl)
 try simp only [Act.put, laS]
 refine wpAnyH_take (i := 1) (v := ?_) rfl (by kernel_rfl) (by kernel_rfl) (by kernel_rfl) (fun _ _ _ h => h) (Or.inl ⟨by kernel_rfl, ?_⟩) (by trivial) ?_
 rotate_left
 ·(intro w hSw; (try dsimp only at hSw); go_simp); (try with_reducible rfl)
 try simp only [Act.put, laS]
 refine wpAnyH_take (i := 2) (v := ?_) rfl (by kernel_rfl) (by kernel_rfl) (by kernel_rfl) (fun _ _ _ h => h) (Or.inl ⟨by kernel_rfl, ?_⟩) (by trivial) ?_
 rotate_left
 ·(intro w hSw; (try dsimp only at hSw); go_simp); (try with_reducible rfl)
 try simp only [Act.put, laS]
 refine wpAnyH_take (i := 3) (v := ?_) rfl (by kernel_rfl) (by kernel_rfl) (by kernel_rfl) (fun _ _ _ h => h) (Or.inl ⟨by kernel_rfl, ?_⟩) (by trivial) ?_
 rotate_left
 ·(intro w hSw; (try dsimp only at hSw); go_simp); (try with_reducible rfl)
 try simp only [Act.put, laS]
 refine wpAnyH_take (i := 4) (v := ?_) rfl (by kernel_rfl) (by kernel_rfl) (by kernel_rfl) (fun _ _ _ h => h) (Or.inl ⟨by kernel_rfl, ?_⟩) (by trivial) ?_
 rotate_left
 ·(intro w hSw; (try dsimp only at hSw); go_simp); (try with_reducible rfl)
 try simp only [Act.put, laS]
 refine wpAnyH_take (i := 6) (v := ?_) rfl (by kernel_rfl) (by kernel_rfl) (by kernel_rfl) (fun _ _ _ h => h) (Or.inl ⟨by kernel_rfl, ?_⟩) (by trivial) ?_
 rotate_left
 ·(intro w hSw; (try dsimp only at hSw); go_simp); (try with_reducible rfl)
 try simp only [Act.put, laS]
 refine wpAnyH_take (i := 7) (v := ?_) rfl (by kernel_rfl) (by kernel_rfl) (by kernel_rfl) (fun _ _ _ h => h) (Or.inl ⟨by kernel_rfl, ?_⟩) (by trivial) ?_
 rotate_left
 ·(intro w hSw; (try dsimp only at hSw); go_simp); (try with_reducible rfl)
 try simp only [Act.put, laS]
 refine wpAnyH_take (i := 8) (v := ?_) rfl (by kernel_rfl) (by kernel_rfl) (by kernel_rfl) (fun _ _ _ h => h) (Or.inl ⟨by kernel_rfl, ?_⟩) (by trivial) ?_
 rotate_left
 ·(intro w hSw; (try dsimp only at hSw); go_simp); (try with_reducible rfl)
 try simp only [Act.put, laS]
 refine wpAnyH_take (i := 9) (v := ?_) rfl (by kernel_rfl) (by kernel_rfl) (by kernel_rfl) (fun _ _ _ h => h) (Or.inl ⟨by kernel_rfl, ?_⟩) (by trivial) ?_
 rotate_left
 ·(intro w hSw; (try dsimp only at hSw); go_simp); (try with_reducible rfl)
 try simp only [Act.put, laS]
 refine wpAnyH_take (i := 10) (v := ?_) rfl (by kernel_rfl) (by kernel_rfl) (by kernel_rfl) (fun _ _ _ h => h) (Or.inl ⟨by kernel_rfl, ?_⟩) (by trivial) ?_
 rotate_left
 ·(intro w hSw; (try dsimp only at hSw); go_simp); (try with_reducible rfl)
 try simp only [Act.put, laS]
 refine wpAnyH_ready (rs := [5, 11]) (by kernel_rfl) (by simp) ?_
 refine AllReadyH.cons rfl (fun K hK => ?_) (AllReadyH.cons rfl (fun K hK => ?_) AllReadyH.nil)
 ·go_simp
  refine hK.out _ _ trivial (fun _ => ?_)
  clear hK K
  try simp only [Act.put, laS]
  refine wpAnyH_ready (rs := [11]) (by kernel_rfl) (by simp) ?_
  refine AllReadyH.cons rfl (fun K hK => ?_) AllReadyH.nil
  go_simp
  refine hK.out _ _ trivial (fun _ => ?_)
  clear hK K
  try simp only [Act.put, laS]
  refine wpAnyH_take (i := 12) (v := ?_) rfl (by kernel_rfl) (by kernel_rfl) (by kernel_rfl) (fun _ _ _ h => h) (Or.inl ⟨by kernel_rfl, ?_⟩) (by trivial) ?_
  rotate_left
  ·(intro w hSw; (try dsimp only at hSw); go_simp); (try with_reducible rfl)
  try simp only [Act.put, laS]
  refine wpAnyH_ready (rs := [13]) (by kernel_rfl) (by simp) ?_
  refine AllReadyH.cons rfl (fun K hK => ?_) AllReadyH.nil
  go_simp
  refine (HOF.out _).mono ?_
  rintro e wo ⟨rfl, hBo⟩
  have XO := Lib.hid ((X1.out.below (Below.refl _ _).drew).below hBo)
  have KO := Lib.hid ((K1.out.trans (RK.below (Below.refl _ _).drew)).trans (RK.below hBo))
  clear hBo
  simp only [sv]
  refine hK.out _ _ trivial (fun _ => ?_)
  clear hK K
  try simp only [Act.put, laS]
  refine wpAnyH_ready (rs := [14]) (by kernel_rfl) (by simp) ?_
  refine AllReadyH.cons rfl (fun K hK => ?_) AllReadyH.nil
  go_simp
  refine (HPB.out _ _ XO.out).mono ?_
  rintro e w2 ⟨rfl, v2, x2, k2'⟩
  have k2 := KO.out.trans k2'
  refine hK.out _ _ trivial (fun _ => ?_)
  clear hK K k2'
  try simp only [Act.put, laS]
  refine wpAnyH_done (by kernel_rfl) ?_ _
  clear HPB HOF X1 K1 XO KO hsl
  go_wp2_with fail
  refine wp_label ?_
  have F2 := HFB.out.step k2
  obtain ⟨o2, cap2, rfl⟩ := x2.slice
  have d2 : w2.cell? ⟨b, 2, none⟩ = some (.slice o2 r2.l.length cap2) := (x2.cell 2).trans rfl
  have hl2 := x2.l
  have ewl : IntKind.i64.wrap ((r2.l.length : Int) - 1) = (r2.l.length : Int) - 1 := by simp [IntKind.wrap, IntKind.signed, IntKind.bits]; omega
  have hit := istimes_c w2 x2
  cases hti : isTimesP s r2.p with
  | false =>
   rw [hti] at hit
   have hr : itemP s row r = .ok ((r2.l.length : Int) - 1, r2) := HR.out.trans (by unfold behP; rw [hti]; rfl)
   have HRR := Lib.hid hr
   have HIT := Lib.hid hit
   have HX2 := Lib.hid x2
   have HK2 := Lib.hid k2
   clear hr hit x2 k2 F2 hti
   go_wp2_with fail
   refine HIT.out.mono ?_
   rintro e w3 ⟨rfl, hB3⟩
   have HX3 := Lib.hid (HX2.out.below hB3)
   have HK3 := Lib.hid (HK2.out.trans (RK.below hB3))
   clear hB3 HIT HX2 HK2
   go_wp2
   rw [jump_ret]
   refine bodyPost_ret (v := .int .i64 ((r2.l.length : Int) - 1)) (by simp [results, Tryz.results170, go_sem]) rfl ?_
   exact ROut.yes HRR.out HX3.out HK3.out
  | true =>
   rw [hti] at hit
   have HIT := Lib.hid hit
   have HX2 := Lib.hid x2
   have HK2 := Lib.hid k2
   have HTI := Lib.hid hti
   have HSY := Lib.hid F2.sy
   have HBS := Lib.hid F2.bs
   clear hit x2 k2 F2 hti
   go_wp2_with fail
   refine HIT.out.mono ?_
   rintro e w3 ⟨rfl, hB3⟩
   have x3 := HX2.out.below hB3
   have k3 := HK2.out.trans (RK.below hB3)
   have hsy3 := HSY.out.same (hB3.block _ HSY.out.lt)
   have ht := btimes_c w3 x3.tx hsy3 HBS.out
   have HT := Lib.hid ht
   have HX3 := Lib.hid x3
   have HK3 := Lib.hid k3
   clear x3 k3 hsy3 ht hB3 HIT HX2 HK2 HSY HBS d2
   go_wp2_with fail
   refine HT.out.mono ?_
   intro e w4 hout
   clear HT
   cases htp : timesP s r2.p with
   | none =>
    rw [TOut.no htp] at hout
    obtain ⟨rfl, hg4⟩ := hout
    have hr : itemP s row r = .error (43, r2.p) := HR.out.trans (by unfold behP; rw [HTI.out, htp]; rfl)
    unfold Pan
    go_wp2
    exact ⟨rfl, ROut.no (v' := .slice o2 r2.l.length cap2) hr (HK3.out.trans ⟨But.grown hg4 (.inl rfl), .inl rfl⟩)⟩
   | some q =>
    obtain ⟨ta, tb, tk⟩ := q
    rw [TOut.yes htp] at hout
    obtain ⟨rfl, m4⟩ := hout
    have x4 := HX3.out.mv m4
    have k4 := HK3.out.trans (RK.mv (v := .slice o2 r2.l.length cap2) m4)
    have hit4 := istimes_c w4 x4
    have c4 : w4.cell? ⟨b, 1, none⟩ = some (.int .i64 (tk : Int)) := (x4.cell 1).trans rfl
    clear HX3 HK3
    cases ht4 : isTimesP s tk with
    | true =>
     have ht4' : isTimesP s (r2.to tk).p = true := ht4
     rw [ht4'] at hit4
     have hr : itemP s row r = .error (43, tk) := HR.out.trans (by unfold behP; rw [HTI.out, htp]; simp only; rw [ht4]; rfl)
     have HIT4 := Lib.hid hit4
     have HRR := Lib.hid hr
     have K4 := Lib.hid k4
     have HW := Lib.hid fun w => wrong_c 43 (tk : Int) w
     have X4 := Lib.hid x4
     clear hit4 hr k4 m4 x4 htp ht4 ht4'
     go_wp2_with fail
     refine HIT4.out.mono ?_
     rintro e w5 ⟨rfl, hB5⟩
     have c5 : w5.cell? ⟨b, 1, none⟩ = some (.int .i64 (tk : Int)) := ((X4.out.below hB5).cell 1).trans rfl
     have K5 := Lib.hid (K4.out.trans (RK.below hB5))
     clear hB5
     go_wp2_with fail
     refine (HW.out _).mono ?_
     rintro e w6 ⟨rfl, rfl⟩
     unfold Pan
     go_wp2
     exact ⟨rfl, ROut.no HRR.out K5.out⟩
    | false =>
     have ht4' : isTimesP s (r2.to tk).p = false := ht4
     rw [ht4'] at hit4
     have hr : itemP s row r = .ok ((((r2.to tk).put ⟨6, 0, 0, 0, 0, (r2.l.length : Int) - 1, 0, ta, tb, 0⟩).l.length : Int) - 1, (r2.to tk).put ⟨6, 0, 0, 0, 0, (r2.l.length : Int) - 1, 0, ta, tb, 0⟩) := HR.out.trans (by unfold behP; rw [HTI.out, htp]; simp only; rw [ht4]; rfl)
     have HPT := Lib.hid fun w1 v1 (h1 : RX w1 b s (r2.to tk) v1) => rput_c ⟨6, 0, 0, 0, 0, (r2.l.length : Int) - 1, 0, ta, tb, 0⟩ w1 h1
     have HIT4 := Lib.hid hit4
     have HRR := Lib.hid hr
     have K4 := Lib.hid k4
     have X4 := Lib.hid x4
     clear hit4 hr k4 m4 x4 htp ht4 ht4' c4
     simp only at HPT
     go_wp2_with fail
     refine HIT4.out.mono ?_
     rintro e w5 ⟨rfl, hB5⟩
     have X5 := Lib.hid (X4.out.below hB5)
     have K5 := Lib.hid (K4.out.trans (RK.below hB5))
     clear hB5 HIT4 X4 K4
     go_wp2_with fail
     refine (HPT.out _ _ X5.out).mono ?_
     rintro e w6 ⟨rfl, v6, x6, k6⟩
     have X6 := Lib.hid x6
     have K6 := Lib.hid (K5.out.trans k6)
     clear x6 k6 HPT
     generalize (((r2.to tk).put ⟨6, 0, 0, 0, 0, (r2.l.length : Int) - 1, 0, ta, tb, 0⟩).l.length : Int) - 1 = res at *
     go_wp2
     rw [jump_ret]
     refine bodyPost_ret (v := .int .i64 res) (by simp [results, Tryz.results170, go_sem]) rfl ?_
     exact ROut.yes HRR.out X6.out K6.out
 ·go_simp
  refine hK.out _ _ trivial (fun _ => ?_)
  clear hK K
  try simp only [Act.put, laS]
  refine wpAnyH_ready (rs := [5]) (by kernel_rfl) (by simp) ?_
  refine AllReadyH.cons rfl (fun K hK => ?_) AllReadyH.nil
  go_simp
  refine hK.out _ _ trivial (fun _ => ?_)
  clear hK K
  try simp only [Act.put, laS]
  refine wpAnyH_take (i := 12) (v := ?_) rfl (by kernel_rfl) (by kernel_rfl) (by kernel_rfl) (fun _ _ _ h => h) (Or.inl ⟨by kernel_rfl, ?_⟩) (by trivial) ?_
  rotate_left
  ·(intro w hSw; (try dsimp only at hSw); go_simp); (try with_reducible rfl)
  try simp only [Act.put, laS]
  refine wpAnyH_ready (rs := [13]) (by kernel_rfl) (by simp) ?_
  refine AllReadyH.cons rfl (fun K hK => ?_) AllReadyH.nil
  go_simp
  refine (HOF.out _).mono ?_
  rintro e wo ⟨rfl, hBo⟩
  have XO := Lib.hid ((X1.out.below (Below.refl _ _).drew).below hBo)
  have KO := Lib.hid ((K1.out.trans (RK.below (Below.refl _ _).drew)).trans (RK.below hBo))
  clear hBo
  simp only [sv]
  refine hK.out _ _ trivial (fun _ => ?_)
  clear hK K
  try simp only [Act.put, laS]
  refine wpAnyH_ready (rs := [14]) (by kernel_rfl) (by simp) ?_
  refine AllReadyH.cons rfl (fun K hK => ?_) AllReadyH.nil
  go_simp
  refine (HPB.out _ _ XO.out).mono ?_
  rintro e w2 ⟨rfl, v2, x2, k2'⟩
  have k2 := KO.out.trans k2'
  refine hK.out _ _ trivial (fun _ => ?_)
  clear hK K k2'
  try simp only [Act.put, laS]
  refine wpAnyH_done (by kernel_rfl) ?_ _
  clear HPB HOF X1 K1 XO KO hsl
  go_wp2_with fail
  refine wp_label ?_
  have F2 := HFB.out.step k2
  obtain ⟨o2, cap2, rfl⟩ := x2.slice
  have d2 : w2.cell? ⟨b, 2, none⟩ = some (.slice o2 r2.l.length cap2) := (x2.cell 2).trans rfl
  have hl2 := x2.l
  have ewl : IntKind.i64.wrap ((r2.l.length : Int) - 1) = (r2.l.length : Int) - 1 := by simp [IntKind.wrap, IntKind.signed, IntKind.bits]; omega
  have hit := istimes_c w2 x2
  cases hti : isTimesP s r2.p with
  | false =>
   rw [hti] at hit
   have hr : itemP s row r = .ok ((r2.l.length : Int) - 1, r2) := HR.out.trans (by unfold behP; rw [hti]; rfl)
   have HRR := Lib.hid hr
   have HIT := Lib.hid hit
   have HX2 := Lib.hid x2
   have HK2 := Lib.hid k2
   clear hr hit x2 k2 F2 hti
   go_wp2_with fail
   refine HIT.out.mono ?_
   rintro e w3 ⟨rfl, hB3⟩
   have HX3 := Lib.hid (HX2.out.below hB3)
   have HK3 := Lib.hid (HK2.out.trans (RK.below hB3))
   clear hB3 HIT HX2 HK2
   go_wp2
   rw [jump_ret]
   refine bodyPost_ret (v := .int .i64 ((r2.l.length : Int) - 1)) (by simp [results, Tryz.results170, go_sem]) rfl ?_
   exact ROut.yes HRR.out HX3.out HK3.out
  | true =>
   rw [hti] at hit
   have HIT := Lib.hid hit
   have HX2 := Lib.hid x2
   have HK2 := Lib.hid k2
   have HTI := Lib.hid hti
   have HSY := Lib.hid F2.sy
   have HBS := Lib.hid F2.bs
   clear hit x2 k2 F2 hti
   go_wp2_with fail
   refine HIT.out.mono ?_
   rintro e w3 ⟨rfl, hB3⟩
   have x3 := HX2.out.below hB3
   have k3 := HK2.out.trans (RK.below hB3)
   have hsy3 := HSY.out.same (hB3.block _ HSY.out.lt)
   have ht := btimes_c w3 x3.tx hsy3 HBS.out
   have HT := Lib.hid ht
   have HX3 := Lib.hid x3
   have HK3 := Lib.hid k3
   clear x3 k3 hsy3 ht hB3 HIT HX2 HK2 HSY HBS d2
   go_wp2_with fail
   refine HT.out.mono ?_
   intro e w4 hout
   clear HT
   cases htp : timesP s r2.p with
   | none =>
    rw [TOut.no htp] at hout
    obtain ⟨rfl, hg4⟩ := hout
    have hr : itemP s row r = .error (43, r2.p) := HR.out.trans (by unfold behP; rw [HTI.out, htp]; rfl)
    unfold Pan
    go_wp2
    exact ⟨rfl, ROut.no (v' := .slice o2 r2.l.length cap2) hr (HK3.out.trans ⟨But.grown hg4 (.inl rfl), .inl rfl⟩)⟩
   | some q =>
    obtain ⟨ta, tb, tk⟩ := q
    rw [TOut.yes htp] at hout
    obtain ⟨rfl, m4⟩ := hout
    have x4 := HX3.out.mv m4
    have k4 := HK3.out.trans (RK.mv (v := .slice o2 r2.l.length cap2) m4)
    have hit4 := istimes_c w4 x4
    have c4 : w4.cell? ⟨b, 1, none⟩ = some (.int .i64 (tk : Int)) := (x4.cell 1).trans rfl
    clear HX3 HK3
    cases ht4 : isTimesP s tk with
    | true =>
     have ht4' : isTimesP s (r2.to tk).p = true := ht4
     rw [ht4'] at hit4
     have hr : itemP s row r = .error (43, tk) := HR.out.trans (by unfold behP; rw [HTI.out, htp]; simp only; rw [ht4]; rfl)
     have HIT4 := Lib.hid hit4
     have HRR := Lib.hid hr
     have K4 := Lib.hid k4
     have HW := Lib.hid fun w => wrong_c 43 (tk : Int) w
     have X4 := Lib.hid x4
     clear hit4 hr k4 m4 x4 htp ht4 ht4'
     go_wp2_with fail
     refine HIT4.out.mono ?_
     rintro e w5 ⟨rfl, hB5⟩
     have c5 : w5.cell? ⟨b, 1, none⟩ = some (.int .i64 (tk : Int)) := ((X4.out.below hB5).cell 1).trans rfl
     have K5 := Lib.hid (K4.out.trans (RK.below hB5))
     clear hB5
     go_wp2_with fail
     refine (HW.out _).mono ?_
     rintro e w6 ⟨rfl, rfl⟩
     unfold Pan
     go_wp2
     exact ⟨rfl, ROut.no HRR.out K5.out⟩
    | false =>
     have ht4' : isTimesP s (r2.to tk).p = false := ht4
     rw [ht4'] at hit4
     have hr : itemP s row r = .ok ((((r2.to tk).put ⟨6, 0, 0, 0, 0, (r2.l.length : Int) - 1, 0, ta, tb, 0⟩).l.length : Int) - 1, (r2.to tk).put ⟨6, 0, 0, 0, 0, (r2.l.length : Int) - 1, 0, ta, tb, 0⟩) := HR.out.trans (by unfold behP; rw [HTI.out, htp]; simp only; rw [ht4]; rfl)
     have HPT := Lib.hid fun w1 v1 (h1 : RX w1 b s (r2.to tk) v1) => rput_c ⟨6, 0, 0, 0, 0, (r2.l.length : Int) - 1, 0, ta, tb, 0⟩ w1 h1
     have HIT4 := Lib.hid hit4
     have HRR := Lib.hid hr
     have K4 := Lib.hid k4
     have X4 := Lib.hid x4
     clear hit4 hr k4 m4 x4 htp ht4 ht4' c4
     simp only at HPT
     go_wp2_with fail
     refine HIT4.out.mono ?_
     rintro e w5 ⟨rfl, hB5⟩
     have X5 := Lib.hid (X4.out.below hB5)
     have K5 := Lib.hid (K4.out.trans (RK.below hB5))
     clear hB5 HIT4 X4 K4
     go_wp2_with fail
     refine (HPT.out _ _ X5.out).mono ?_
     rintro e w6 ⟨rfl, v6, x6, k6⟩
     have X6 := Lib.hid x6
     have K6 := Lib.hid (K5.out.trans k6)
     clear x6 k6 HPT
     generalize (((r2.to tk).put ⟨6, 0, 0, 0, 0, (r2.l.length : Int) - 1, 0, ta, tb, 0⟩).l.length : Int) - 1 = res at *
     go_wp2
     rw [jump_ret]
     refine bodyPost_ret (v := .int .i64 res) (by simp [results, Tryz.results170, go_sem]) rfl ?_
     exact ROut.yes HRR.out X6.out K6.out
end
end Go.Proofs.YtdjcgjkbecncaaaGreatDoor
namespace Go.Proofs.YtdjcgjkbecncaaaGreatDoor
open Go.RowKit
section
variable {b : Nat} {s : List UInt8} {r : BRd} {v : Value}
theorem item_end (row : BRd → Except Er (Bool × BRd)) (he : endsP s (r.p + 1) = true) (hd : s[r.p]? = some 36) (w : World) (h : RX w b s r v) (hF : FB w b v) :
  Calls Tryz.prog 170 #[.pointer (some ⟨b, 0, none⟩)] w (ROut w b s v (fun i : Int => .int .i64 i) (itemP s row r)) := by
 have hs := h.s
 have hplt := (List.getElem?_eq_some_iff.1 hd).1
 have c0 : w.cell? ⟨b, 0, none⟩ = some (.string ⟨s.toArray⟩) := (h.cell 0).trans rfl
 have c1 : w.cell? ⟨b, 1, none⟩ = some (.int .i64 (r.p : Int)) := (h.cell 1).trans rfl
 have f1 := h.fz 1
 have hx : ∀ W : World, (Instr.index 9 (.string ⟨s.toArray⟩) (.int .i64 (r.p : Int))).run Tryz.prog W = .ok (.int .u8 36) W := fun W => ix_c h.tx 36 hd W
 have ew : IntKind.i64.wrap ((r.p : Int) + 1) = (r.p : Int) + 1 := by simp [IntKind.wrap, IntKind.signed, IntKind.bits]; omega
 have h1 := h.row_but (j := 1) (.int .i64 ((r.p : Int) + 1)) (r.to (r.p + 1)) (by rw [show (r.p : Int) + 1 = ((r.p + 1 : Nat) : Int) by omega]; rfl) rfl hplt
 have d0 : World.cell? (w.setCell ⟨b, 1, none⟩ (.int .i64 ((r.p : Int) + 1))) ⟨b, 0, none⟩ = some (.string ⟨s.toArray⟩) := (h1.cell 0).trans rfl
 have k1 := (RK.refl (w := w) (b := b) (v := v)).set 1 (.int .i64 ((r.p : Int) + 1))
 have hen := ends_c _ h1
 have he' : endsP s (r.to (r.p + 1)).p = true := he
 rw [he'] at hen
 have hr : itemP s row r = .ok ((((r.to (r.p + 1)).put (kindNd 3)).l.length : Int) - 1, (r.to (r.p + 1)).put (kindNd 3)) := by unfold itemP; rw [hd]; simp only; rw [if_neg (by decide), if_neg (by decide), if_neg (by decide), if_pos ⟨trivial, he⟩]
 have HRR := Lib.hid hr
 have HEN := Lib.hid hen
 have HPT := Lib.hid fun w1 v1 (h1 : RX w1 b s (r.to (r.p + 1)) v1) => rput_c ⟨3, 0, 0, 0, 0, 0, 0, 0, 0, 0⟩ w1 h1
 have HX1 := Lib.hid h1
 have HK1 := Lib.hid k1
 simp only at HPT
 clear hr hen h h1 k1 hF hd he he'
 go_enter Tryz.func170, Tryz.ntmps170
 go_wp2_with fail
 refine wp_scope_fwd 0 rfl ?_
 go_wp2_with fail
 refine HEN.out.mono ?_
 rintro e w2 ⟨rfl, hB2⟩
 have X2 := Lib.hid (HX1.out.below hB2)
 have K2 := Lib.hid (HK1.out.trans (RK.below hB2))
 clear hB2 HEN HX1 HK1 c0 c1 f1 d0
 go_wp2_with fail
 refine (HPT.out _ _ X2.out).mono ?_
 rintro e w6 ⟨rfl, v6, x6, k6⟩
 have X6 := Lib.hid x6
 have K6 := Lib.hid (K2.out.trans k6)
 clear x6 k6 HPT
 unfold kindNd at HRR
 generalize (((r.to (r.p + 1)).put ⟨3, 0, 0, 0, 0, 0, 0, 0, 0, 0⟩).l.length : Int) - 1 = res at *
 go_wp2
 rw [jump_ret]
 refine bodyPost_ret (v := .int .i64 res) (by simp [results, Tryz.results170, go_sem]) rfl ?_
 exact ROut.yes HRR.out X6.out K6.out
theorem item_noend (row : BRd → Except Er (Bool × BRd)) (he : endsP s (r.p + 1) = false) (hd : s[r.p]? = some 36) (w : World) (h : RX w b s r v) (hF : FB w b v) :
  Calls Tryz.prog 170 #[.pointer (some ⟨b, 0, none⟩)] w (ROut w b s v (fun i : Int => .int .i64 i) (itemP s row r)) := by
 have hs := h.s
 have hplt := (List.getElem?_eq_some_iff.1 hd).1
 have c0 : w.cell? ⟨b, 0, none⟩ = some (.string ⟨s.toArray⟩) := (h.cell 0).trans rfl
 have c1 : w.cell? ⟨b, 1, none⟩ = some (.int .i64 (r.p : Int)) := (h.cell 1).trans rfl
 have f1 := h.fz 1
 have hx : ∀ W : World, (Instr.index 9 (.string ⟨s.toArray⟩) (.int .i64 (r.p : Int))).run Tryz.prog W = .ok (.int .u8 36) W := fun W => ix_c h.tx 36 hd W
 have ew : IntKind.i64.wrap ((r.p : Int) + 1) = (r.p : Int) + 1 := by simp [IntKind.wrap, IntKind.signed, IntKind.bits]; omega
 have h1 := h.row_but (j := 1) (.int .i64 ((r.p : Int) + 1)) (r.to (r.p + 1)) (by rw [show (r.p : Int) + 1 = ((r.p + 1 : Nat) : Int) by omega]; rfl) rfl hplt
 have d0 : World.cell? (w.setCell ⟨b, 1, none⟩ (.int .i64 ((r.p : Int) + 1))) ⟨b, 0, none⟩ = some (.string ⟨s.toArray⟩) := (h1.cell 0).trans rfl
 have k1 := (RK.refl (w := w) (b := b) (v := v)).set 1 (.int .i64 ((r.p : Int) + 1))
 have hsl0 := fun W => slice_two s hs r.p 1 (by omega) W
 rw [take_one hd] at hsl0
 have hsl : ∀ W : World, (Instr.slice 9 (.string ⟨s.toArray⟩) (some (.int .i64 (r.p : Int))) (some (.int .i64 ((r.p : Int) + 1))) none).run Tryz.prog W = .ok (.string ⟨#[36]⟩) W := fun W => hsl0 W
 have HOF := Lib.hid fun w => ofTo ⟨#[36]⟩ (by show 1 < _; decide) w
 obtain ⟨r2, hr2⟩ : ∃ r2, r2 = (r.to (r.p + 1)).put (byNd (inS ⟨#[36]⟩ 1)) := ⟨_, rfl⟩
 have HPB := Lib.hid fun w1 v1 (h1 : RX w1 b s (r.to (r.p + 1)) v1) => putbytes_c (inS ⟨#[36]⟩ 1) w1 h1
 rw [← hr2] at HPB
 have HFB := Lib.hid hF
 have X1 := Lib.hid h1
 have K1 := Lib.hid k1
 have hen := ends_c _ h1
 have he' : endsP s (r.to (r.p + 1)).p = false := he
 rw [he'] at hen
 have HEN := Lib.hid hen
 have HR : Hid (itemP s row r = behP s r2) := Lib.hid (by unfold itemP; rw [hd]; simp only; rw [if_neg (by decide), if_neg (by decide), if_neg (by decide), if_neg (fun q => by rw [he] at q; exact absurd q.2 (by decide)), hr2, bytes_one])
 have HX1 := Lib.hid h1
 have HK1 := Lib.hid k1
 clear h h1 k1 hF hd hr2 hsl0 he he' hen X1 K1
 go_enter Tryz.func170, Tryz.ntmps170
 go_wp2_with fail
 refine wp_scope_fwd 0 rfl ?_
 go_wp2_with fail
 refine HEN.out.mono ?_
 rintro e wd ⟨rfl, hB2⟩
 have X1 := Lib.hid (HX1.out.below hB2)
 have K1 := Lib.hid (HK1.out.trans (RK.below hB2))
 clear hB2 HEN HX1 HK1 c0 c1 f1 d0
 have p0 := (X1.out.cell 0).trans (rfl : _ = some (Value.string ⟨s.toArray⟩))
 have p1 : World.cell? wd ⟨b, 1, none⟩ = some (.int .i64 ((r.p : Int) + 1)) := (X1.out.cell 1).trans (by show some (Value.int .i64 (((r.p + 1 : Nat)) : Int)) = _; rw [Int.natCast_add]; rfl)
 go_wp2_with fail
 refine wp_region_held_drew (S := fun _ => True) (by kernel_rfl) trivial (fun _ => ?_)
 refine wpAnyH_take (i := 0) (v := ?_) rfl (by kernel_rfl) (by kernel_rfl) (by kernel_rfl) (fun _ _ _ h => h) (Or.inl ⟨by kernel_rfl, ?_⟩) (by trivial) ?_
 rotate_left
 ·(intro w hSw; (try dsimp only at hSw); go_simp); (try with_reducible rfl)
 try simp only [Act.put, laS]
 refine wpAnyH_take (i := 1) (v := ?_) rfl (by kernel_rfl) (by kernel_rfl) (by kernel_rfl) (fun _ _ _ h => h) (Or.inl ⟨by kernel_rfl, ?_⟩) (by trivial) ?_
 rotate_left
 ·(intro w hSw; (try dsimp only at hSw); go_simp); (try with_reducible rfl)
 try simp only [Act.put, laS]
 refine wpAnyH_take (i := 2) (v := ?_) rfl (by kernel_rfl) (by kernel_rfl) (by kernel_rfl) (fun _ _ _ h => h) (Or.inl ⟨by kernel_rfl, ?_⟩) (by trivial) ?_
 rotate_left
 ·(intro w hSw; (try dsimp only at hSw); go_simp); (try with_reducible rfl)
 try simp only [Act.put, laS]
 refine wpAnyH_take (i := 3) (v := ?_) rfl (by kernel_rfl) (by kernel_rfl) (by kernel_rfl) (fun _ _ _ h => h) (Or.inl ⟨by kernel_rfl, ?_⟩) (by trivial) ?_
 rotate_left
 ·(intro w hSw; (try dsimp only at hSw); go_simp); (try with_reducible rfl)
 try simp only [Act.put, laS]
 refine wpAnyH_take (i := 4) (v := ?_) rfl (by kernel_rfl) (by kernel_rfl) (by kernel_rfl) (fun _ _ _ h => h) (Or.inl ⟨by kernel_rfl, ?_⟩) (by trivial) ?_
 rotate_left
 ·(intro w hSw; (try dsimp only at hSw); go_simp); (try with_reducible rfl)
 try simp only [Act.put, laS]
 refine wpAnyH_take (i := 6) (v := ?_) rfl (by kernel_rfl) (by kernel_rfl) (by kernel_rfl) (fun _ _ _ h => h) (Or.inl ⟨by kernel_rfl, ?_⟩) (by trivial) ?_
 rotate_left
 ·(intro w hSw; (try dsimp only at hSw); go_simp); (try with_reducible rfl)
 try simp only [Act.put, laS]
 refine wpAnyH_take (i := 7) (v := ?_) rfl (by kernel_rfl) (by kernel_rfl) (by kernel_rfl) (fun _ _ _ h => h) (Or.inl ⟨by kernel_rfl, ?_⟩) (by trivial) ?_
 rotate_left
 ·(intro w hSw; (try dsimp only at hSw); go_simp); (try with_reducible rfl)
 try simp only [Act.put, laS]
 refine wpAnyH_take (i := 8) (v := ?_) rfl (by kernel_rfl) (by kernel_rfl) (by kernel_rfl) (fun _ _ _ h => h) (Or.inl ⟨by kernel_rfl, ?_⟩) (by trivial) ?_
 rotate_left
 ·(intro w hSw; (try dsimp only at hSw); go_simp); (try with_reducible rfl)
 try simp only [Act.put, laS]
 refine wpAnyH_take (i := 9) (v := ?_) rfl (by kernel_rfl) (by kernel_rfl) (by kernel_rfl) (fun _ _ _ h => h) (Or.inl ⟨by kernel_rfl, ?_⟩) (by trivial) ?_
 rotate_left
 ·(intro w hSw; (try dsimp only at hSw); go_simp); (try with_reducible rfl)
 try simp only [Act.put, laS]
 refine wpAnyH_take (i := 10) (v := ?_) rfl (by kernel_rfl) (by kernel_rfl) (by kernel_rfl) (fun _ _ _ h => h) (Or.inl ⟨by kernel_rfl, ?_⟩) (by trivial) ?_
 rotate_left
 ·(intro w hSw; (try dsimp only at hSw); go_simp); (try with_reducible rfl)
 try simp only [Act.put, laS]
 refine wpAnyH_ready (rs := [5, 11]) (by kernel_rfl) (by simp) ?_
 refine AllReadyH.cons rfl (fun K hK => ?_) (AllReadyH.cons rfl (fun K hK => ?_) AllReadyH.nil)
 ·go_simp
  refine hK.out _ _ trivial (fun _ => ?_)
  clear hK K
  try simp only [Act.put, laS]
  refine wpAnyH_ready (rs := [11]) (by kernel_rfl) (by simp) ?_
  refine AllReadyH.cons rfl (fun K hK => ?_) AllReadyH.nil
  go_simp
  refine hK.out _ _ trivial (fun _ => ?_)
  clear hK K
  try simp only [Act.put, laS]
  refine wpAnyH_take (i := 12) (v := ?_) rfl (by kernel_rfl) (by kernel_rfl) (by kernel_rfl) (fun _ _ _ h => h) (Or.inl ⟨by kernel_rfl, ?_⟩) (by trivial) ?_
  rotate_left
  ·(intro w hSw; (try dsimp only at hSw); go_simp); (try with_reducible rfl)
  try simp only [Act.put, laS]
  refine wpAnyH_ready (rs := [13]) (by kernel_rfl) (by simp) ?_
  refine AllReadyH.cons rfl (fun K hK => ?_) AllReadyH.nil
  go_simp
  refine (HOF.out _).mono ?_
  rintro e wo ⟨rfl, hBo⟩
  have XO := Lib.hid ((X1.out.below (Below.refl _ _).drew).below hBo)
  have KO := Lib.hid ((K1.out.trans (RK.below (Below.refl _ _).drew)).trans (RK.below hBo))
  clear hBo
  simp only [sv]
  refine hK.out _ _ trivial (fun _ => ?_)
  clear hK K
  try simp only [Act.put, laS]
  refine wpAnyH_ready (rs := [14]) (by kernel_rfl) (by simp) ?_
  refine AllReadyH.cons rfl (fun K hK => ?_) AllReadyH.nil
  go_simp
  refine (HPB.out _ _ XO.out).mono ?_
  rintro e w2 ⟨rfl, v2, x2, k2'⟩
  have k2 := KO.out.trans k2'
  refine hK.out _ _ trivial (fun _ => ?_)
  clear hK K k2'
  try simp only [Act.put, laS]
  refine wpAnyH_done (by kernel_rfl) ?_ _
  clear HPB HOF X1 K1 XO KO hsl
  go_wp2_with fail
  refine wp_label ?_
  have F2 := HFB.out.step k2
  obtain ⟨o2, cap2, rfl⟩ := x2.slice
  have d2 : w2.cell? ⟨b, 2, none⟩ = some (.slice o2 r2.l.length cap2) := (x2.cell 2).trans rfl
  have hl2 := x2.l
  have ewl : IntKind.i64.wrap ((r2.l.length : Int) - 1) = (r2.l.length : Int) - 1 := by simp [IntKind.wrap, IntKind.signed, IntKind.bits]; omega
  have hit := istimes_c w2 x2
  cases hti : isTimesP s r2.p with
  | false =>
   rw [hti] at hit
   have hr : itemP s row r = .ok ((r2.l.length : Int) - 1, r2) := HR.out.trans (by unfold behP; rw [hti]; rfl)
   have HRR := Lib.hid hr
   have HIT := Lib.hid hit
   have HX2 := Lib.hid x2
   have HK2 := Lib.hid k2
   clear hr hit x2 k2 F2 hti
   go_wp2_with fail
   refine HIT.out.mono ?_
   rintro e w3 ⟨rfl, hB3⟩
   have HX3 := Lib.hid (HX2.out.below hB3)
   have HK3 := Lib.hid (HK2.out.trans (RK.below hB3))
   clear hB3 HIT HX2 HK2
   go_wp2
   rw [jump_ret]
   refine bodyPost_ret (v := .int .i64 ((r2.l.length : Int) - 1)) (by simp [results, Tryz.results170, go_sem]) rfl ?_
   exact ROut.yes HRR.out HX3.out HK3.out
  | true =>
   rw [hti] at hit
   have HIT := Lib.hid hit
   have HX2 := Lib.hid x2
   have HK2 := Lib.hid k2
   have HTI := Lib.hid hti
   have HSY := Lib.hid F2.sy
   have HBS := Lib.hid F2.bs
   clear hit x2 k2 F2 hti
   go_wp2_with fail
   refine HIT.out.mono ?_
   rintro e w3 ⟨rfl, hB3⟩
   have x3 := HX2.out.below hB3
   have k3 := HK2.out.trans (RK.below hB3)
   have hsy3 := HSY.out.same (hB3.block _ HSY.out.lt)
   have ht := btimes_c w3 x3.tx hsy3 HBS.out
   have HT := Lib.hid ht
   have HX3 := Lib.hid x3
   have HK3 := Lib.hid k3
   clear x3 k3 hsy3 ht hB3 HIT HX2 HK2 HSY HBS d2
   go_wp2_with fail
   refine HT.out.mono ?_
   intro e w4 hout
   clear HT
   cases htp : timesP s r2.p with
   | none =>
    rw [TOut.no htp] at hout
    obtain ⟨rfl, hg4⟩ := hout
    have hr : itemP s row r = .error (43, r2.p) := HR.out.trans (by unfold behP; rw [HTI.out, htp]; rfl)
    unfold Pan
    go_wp2
    exact ⟨rfl, ROut.no (v' := .slice o2 r2.l.length cap2) hr (HK3.out.trans ⟨But.grown hg4 (.inl rfl), .inl rfl⟩)⟩
   | some q =>
    obtain ⟨ta, tb, tk⟩ := q
    rw [TOut.yes htp] at hout
    obtain ⟨rfl, m4⟩ := hout
    have x4 := HX3.out.mv m4
    have k4 := HK3.out.trans (RK.mv (v := .slice o2 r2.l.length cap2) m4)
    have hit4 := istimes_c w4 x4
    have c4 : w4.cell? ⟨b, 1, none⟩ = some (.int .i64 (tk : Int)) := (x4.cell 1).trans rfl
    clear HX3 HK3
    cases ht4 : isTimesP s tk with
    | true =>
     have ht4' : isTimesP s (r2.to tk).p = true := ht4
     rw [ht4'] at hit4
     have hr : itemP s row r = .error (43, tk) := HR.out.trans (by unfold behP; rw [HTI.out, htp]; simp only; rw [ht4]; rfl)
     have HIT4 := Lib.hid hit4
     have HRR := Lib.hid hr
     have K4 := Lib.hid k4
     have HW := Lib.hid fun w => wrong_c 43 (tk : Int) w
     have X4 := Lib.hid x4
     clear hit4 hr k4 m4 x4 htp ht4 ht4'
     go_wp2_with fail
     refine HIT4.out.mono ?_
     rintro e w5 ⟨rfl, hB5⟩
     have c5 : w5.cell? ⟨b, 1, none⟩ = some (.int .i64 (tk : Int)) := ((X4.out.below hB5).cell 1).trans rfl
     have K5 := Lib.hid (K4.out.trans (RK.below hB5))
     clear hB5
     go_wp2_with fail
     refine (HW.out _).mono ?_
     rintro e w6 ⟨rfl, rfl⟩
     unfold Pan
     go_wp2
     exact ⟨rfl, ROut.no HRR.out K5.out⟩
    | false =>
     have ht4' : isTimesP s (r2.to tk).p = false := ht4
     rw [ht4'] at hit4
     have hr : itemP s row r = .ok ((((r2.to tk).put ⟨6, 0, 0, 0, 0, (r2.l.length : Int) - 1, 0, ta, tb, 0⟩).l.length : Int) - 1, (r2.to tk).put ⟨6, 0, 0, 0, 0, (r2.l.length : Int) - 1, 0, ta, tb, 0⟩) := HR.out.trans (by unfold behP; rw [HTI.out, htp]; simp only; rw [ht4]; rfl)
     have HPT := Lib.hid fun w1 v1 (h1 : RX w1 b s (r2.to tk) v1) => rput_c ⟨6, 0, 0, 0, 0, (r2.l.length : Int) - 1, 0, ta, tb, 0⟩ w1 h1
     have HIT4 := Lib.hid hit4
     have HRR := Lib.hid hr
     have K4 := Lib.hid k4
     have X4 := Lib.hid x4
     clear hit4 hr k4 m4 x4 htp ht4 ht4' c4
     simp only at HPT
     go_wp2_with fail
     refine HIT4.out.mono ?_
     rintro e w5 ⟨rfl, hB5⟩
     have X5 := Lib.hid (X4.out.below hB5)
     have K5 := Lib.hid (K4.out.trans (RK.below hB5))
     clear hB5 HIT4 X4 K4
     go_wp2_with fail
     refine (HPT.out _ _ X5.out).mono ?_
     rintro e w6 ⟨rfl, v6, x6, k6⟩
     have X6 := Lib.hid x6
     have K6 := Lib.hid (K5.out.trans k6)
     clear x6 k6 HPT
     generalize (((r2.to tk).put ⟨6, 0, 0, 0, 0, (r2.l.length : Int) - 1, 0, ta, tb, 0⟩).l.length : Int) - 1 = res at *
     go_wp2
     rw [jump_ret]
     refine bodyPost_ret (v := .int .i64 res) (by simp [results, Tryz.results170, go_sem]) rfl ?_
     exact ROut.yes HRR.out X6.out K6.out
 ·go_simp
  refine hK.out _ _ trivial (fun _ => ?_)
  clear hK K
  try simp only [Act.put, laS]
  refine wpAnyH_ready (rs := [5]) (by kernel_rfl) (by simp) ?_
  refine AllReadyH.cons rfl (fun K hK => ?_) AllReadyH.nil
  go_simp
  refine hK.out _ _ trivial (fun _ => ?_)
  clear hK K
  try simp only [Act.put, laS]
  refine wpAnyH_take (i := 12) (v := ?_) rfl (by kernel_rfl) (by kernel_rfl) (by kernel_rfl) (fun _ _ _ h => h) (Or.inl ⟨by kernel_rfl, ?_⟩) (by trivial) ?_
  rotate_left
  ·(intro w hSw; (try dsimp only at hSw); go_simp); (try with_reducible rfl)
  try simp only [Act.put, laS]
  refine wpAnyH_ready (rs := [13]) (by kernel_rfl) (by simp) ?_
  refine AllReadyH.cons rfl (fun K hK => ?_) AllReadyH.nil
  go_simp
  refine (HOF.out _).mono ?_
  rintro e wo ⟨rfl, hBo⟩
  have XO := Lib.hid ((X1.out.below (Below.refl _ _).drew).below hBo)
  have KO := Lib.hid ((K1.out.trans (RK.below (Below.refl _ _).drew)).trans (RK.below hBo))
  clear hBo
  simp only [sv]
  refine hK.out _ _ trivial (fun _ => ?_)
  clear hK K
  try simp only [Act.put, laS]
  refine wpAnyH_ready (rs := [14]) (by kernel_rfl) (by simp) ?_
  refine AllReadyH.cons rfl (fun K hK => ?_) AllReadyH.nil
  go_simp
  refine (HPB.out _ _ XO.out).mono ?_
  rintro e w2 ⟨rfl, v2, x2, k2'⟩
  have k2 := KO.out.trans k2'
  refine hK.out _ _ trivial (fun _ => ?_)
  clear hK K k2'
  try simp only [Act.put, laS]
  refine wpAnyH_done (by kernel_rfl) ?_ _
  clear HPB HOF X1 K1 XO KO hsl
  go_wp2_with fail
  refine wp_label ?_
  have F2 := HFB.out.step k2
  obtain ⟨o2, cap2, rfl⟩ := x2.slice
  have d2 : w2.cell? ⟨b, 2, none⟩ = some (.slice o2 r2.l.length cap2) := (x2.cell 2).trans rfl
  have hl2 := x2.l
  have ewl : IntKind.i64.wrap ((r2.l.length : Int) - 1) = (r2.l.length : Int) - 1 := by simp [IntKind.wrap, IntKind.signed, IntKind.bits]; omega
  have hit := istimes_c w2 x2
  cases hti : isTimesP s r2.p with
  | false =>
   rw [hti] at hit
   have hr : itemP s row r = .ok ((r2.l.length : Int) - 1, r2) := HR.out.trans (by unfold behP; rw [hti]; rfl)
   have HRR := Lib.hid hr
   have HIT := Lib.hid hit
   have HX2 := Lib.hid x2
   have HK2 := Lib.hid k2
   clear hr hit x2 k2 F2 hti
   go_wp2_with fail
   refine HIT.out.mono ?_
   rintro e w3 ⟨rfl, hB3⟩
   have HX3 := Lib.hid (HX2.out.below hB3)
   have HK3 := Lib.hid (HK2.out.trans (RK.below hB3))
   clear hB3 HIT HX2 HK2
   go_wp2
   rw [jump_ret]
   refine bodyPost_ret (v := .int .i64 ((r2.l.length : Int) - 1)) (by simp [results, Tryz.results170, go_sem]) rfl ?_
   exact ROut.yes HRR.out HX3.out HK3.out
  | true =>
   rw [hti] at hit
   have HIT := Lib.hid hit
   have HX2 := Lib.hid x2
   have HK2 := Lib.hid k2
   have HTI := Lib.hid hti
   have HSY := Lib.hid F2.sy
   have HBS := Lib.hid F2.bs
   clear hit x2 k2 F2 hti
   go_wp2_with fail
   refine HIT.out.mono ?_
   rintro e w3 ⟨rfl, hB3⟩
   have x3 := HX2.out.below hB3
   have k3 := HK2.out.trans (RK.below hB3)
   have hsy3 := HSY.out.same (hB3.block _ HSY.out.lt)
   have ht := btimes_c w3 x3.tx hsy3 HBS.out
   have HT := Lib.hid ht
   have HX3 := Lib.hid x3
   have HK3 := Lib.hid k3
   clear x3 k3 hsy3 ht hB3 HIT HX2 HK2 HSY HBS d2
   go_wp2_with fail
   refine HT.out.mono ?_
   intro e w4 hout
   clear HT
   cases htp : timesP s r2.p with
   | none =>
    rw [TOut.no htp] at hout
    obtain ⟨rfl, hg4⟩ := hout
    have hr : itemP s row r = .error (43, r2.p) := HR.out.trans (by unfold behP; rw [HTI.out, htp]; rfl)
    unfold Pan
    go_wp2
    exact ⟨rfl, ROut.no (v' := .slice o2 r2.l.length cap2) hr (HK3.out.trans ⟨But.grown hg4 (.inl rfl), .inl rfl⟩)⟩
   | some q =>
    obtain ⟨ta, tb, tk⟩ := q
    rw [TOut.yes htp] at hout
    obtain ⟨rfl, m4⟩ := hout
    have x4 := HX3.out.mv m4
    have k4 := HK3.out.trans (RK.mv (v := .slice o2 r2.l.length cap2) m4)
    have hit4 := istimes_c w4 x4
    have c4 : w4.cell? ⟨b, 1, none⟩ = some (.int .i64 (tk : Int)) := (x4.cell 1).trans rfl
    clear HX3 HK3
    cases ht4 : isTimesP s tk with
    | true =>
     have ht4' : isTimesP s (r2.to tk).p = true := ht4
     rw [ht4'] at hit4
     have hr : itemP s row r = .error (43, tk) := HR.out.trans (by unfold behP; rw [HTI.out, htp]; simp only; rw [ht4]; rfl)
     have HIT4 := Lib.hid hit4
     have HRR := Lib.hid hr
     have K4 := Lib.hid k4
     have HW := Lib.hid fun w => wrong_c 43 (tk : Int) w
     have X4 := Lib.hid x4
     clear hit4 hr k4 m4 x4 htp ht4 ht4'
     go_wp2_with fail
     refine HIT4.out.mono ?_
     rintro e w5 ⟨rfl, hB5⟩
     have c5 : w5.cell? ⟨b, 1, none⟩ = some (.int .i64 (tk : Int)) := ((X4.out.below hB5).cell 1).trans rfl
     have K5 := Lib.hid (K4.out.trans (RK.below hB5))
     clear hB5
     go_wp2_with fail
     refine (HW.out _).mono ?_
     rintro e w6 ⟨rfl, rfl⟩
     unfold Pan
     go_wp2
     exact ⟨rfl, ROut.no HRR.out K5.out⟩
    | false =>
     have ht4' : isTimesP s (r2.to tk).p = false := ht4
     rw [ht4'] at hit4
     have hr : itemP s row r = .ok ((((r2.to tk).put ⟨6, 0, 0, 0, 0, (r2.l.length : Int) - 1, 0, ta, tb, 0⟩).l.length : Int) - 1, (r2.to tk).put ⟨6, 0, 0, 0, 0, (r2.l.length : Int) - 1, 0, ta, tb, 0⟩) := HR.out.trans (by unfold behP; rw [HTI.out, htp]; simp only; rw [ht4]; rfl)
     have HPT := Lib.hid fun w1 v1 (h1 : RX w1 b s (r2.to tk) v1) => rput_c ⟨6, 0, 0, 0, 0, (r2.l.length : Int) - 1, 0, ta, tb, 0⟩ w1 h1
     have HIT4 := Lib.hid hit4
     have HRR := Lib.hid hr
     have K4 := Lib.hid k4
     have X4 := Lib.hid x4
     clear hit4 hr k4 m4 x4 htp ht4 ht4' c4
     simp only at HPT
     go_wp2_with fail
     refine HIT4.out.mono ?_
     rintro e w5 ⟨rfl, hB5⟩
     have X5 := Lib.hid (X4.out.below hB5)
     have K5 := Lib.hid (K4.out.trans (RK.below hB5))
     clear hB5 HIT4 X4 K4
     go_wp2_with fail
     refine (HPT.out _ _ X5.out).mono ?_
     rintro e w6 ⟨rfl, v6, x6, k6⟩
     have X6 := Lib.hid x6
     have K6 := Lib.hid (K5.out.trans k6)
     clear x6 k6 HPT
     generalize (((r2.to tk).put ⟨6, 0, 0, 0, 0, (r2.l.length : Int) - 1, 0, ta, tb, 0⟩).l.length : Int) - 1 = res at *
     go_wp2
     rw [jump_ret]
     refine bodyPost_ret (v := .int .i64 res) (by simp [results, Tryz.results170, go_sem]) rfl ?_
     exact ROut.yes HRR.out X6.out K6.out
theorem item_c (row : BRd → Except Er (Bool × BRd)) (hrow : r.g < 9 → RowC b s (r.g + 1) row) (hen : r.g ≤ 9) (hp : r.p < s.length) (w : World) (h : RX w b s r v) (hF : FB w b v) :
  Calls Tryz.prog 170 #[.pointer (some ⟨b, 0, none⟩)] w (ROut w b s v (fun i : Int => .int .i64 i) (itemP s row r)) := by
 obtain ⟨c, hc⟩ : ∃ c, s[r.p]? = some c := ⟨_, List.getElem?_eq_getElem hp⟩
 by_cases h46 : c = 46
 ·subst h46; exact item_dot row hc w h hF
 by_cases h91 : c = 91
 ·subst h91; exact item_list row hc w h hF
 by_cases h92 : c = 92
 ·subst h92; exact item_esc row hrow hen hc w h hF
 by_cases h36 : c = 36
 ·subst h36
  cases he : endsP s (r.p + 1) with
  | true => exact item_end row he hc w h hF
  | false => exact item_noend row he hc w h hF
 exact item_plain row c h46 h91 h92 h36 hc w h hF
end
end Go.Proofs.YtdjcgjkbecncaaaGreatDoor
