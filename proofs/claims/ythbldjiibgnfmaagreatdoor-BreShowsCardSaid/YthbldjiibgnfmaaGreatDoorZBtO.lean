/- BreBack: the walk. -/
import Derived.Test.YthbldjiibgnfmaaGreatDoorZBtF
import Derived.Test.YthbldjiibgnfmaaGreatDoorZBrKj
import Derived.Test.YthbldjiibgnfmaaGreatDoorZRxTr
import Derived.Laws.EntriesVeiled
import Derived.Test.YthbldjiibgnfmaaGreatDoorZBtN
namespace Go.Proofs.YthbldjiibgnfmaaGreatDoor
open Go.RowKit Go.Lib
set_option linter.unusedVariables false
set_option linter.unusedSimpArgs false

theorem whole_of_parsed {s : List UInt8} (h : parsedL s ≠ []) : ∃ q, wholeP s = .ok q := by
  cases hq : wholeP s with
  | ok q => exact ⟨q, rfl⟩
  | error e =>
    unfold parsedL at h
    rw [hq] at h
    exact absurd rfl h
/-- A row of nodes at whatever place. -/
structure Row1 (w : World) (xs : List Nd) (b o n cap : Nat) : Prop where
  x : NodesAt w b o xs
  len : xs.length = n
  pos : 1 ≤ n
  n : n ≤ 121
theorem Row1.below {w w' : World} {xs : List Nd} {b o n cap : Nat} (h : Row1 w xs b o n cap) (hB : Below w.heap.size w w') : Row1 w' xs b o n cap := ⟨h.x.below hB h.x.lt, h.len, h.pos, h.n⟩
theorem parse_row (s : List UInt8) (hs : s.length ≤ 100000) (hne : parsedL s ≠ []) (w : World) (hw : Fit5 w) :
    Calls Tryz.prog 10 #[.string ⟨s.toArray⟩] w fun e w' => (∃ b o n cap, e = .returned (.tuple #[.slice (some ⟨b, o, none⟩) n cap, .int .i64 0, .int .i64 0]) ∧ Row1 w' (parsedL s) b o n cap) ∧ Below w.heap.size w w' := by
  refine (bparse_c s hs w hw.m hw.s).mono ?_
  rintro e w' ⟨hout, hB⟩
  refine ⟨?_, hB⟩
  obtain ⟨p, n, cap, a, z, he, hx, hn, hok, her⟩ := pout_nodes hout
  obtain ⟨q, hq⟩ := whole_of_parsed hne
  obtain ⟨rfl, rfl⟩ := hok q hq
  have hl := hx.len
  have h1 : 1 ≤ n := by have := List.length_pos_iff.2 hne; omega
  obtain ⟨b, o, rfl⟩ := hx.ptr h1
  exact ⟨b, o, n, cap, he, hx.at' h1 b o rfl, hl, h1, hn⟩
end Go.Proofs.YthbldjiibgnfmaaGreatDoor

namespace Go.Proofs.YthbldjiibgnfmaaGreatDoor
open Go.RowKit Go.Lib
set_option linter.unusedVariables false
set_option linter.unusedSimpArgs false

theorem showP_congr {F G : Nat → Bool} (h : ∀ i, i < 256 → F i = G i) : showP F = showP G := by
  have hc : cnt F 256 = cnt G 256 := cnt_congr h
  have hb := bytesL_congr h
  have hh : hatDash F = hatDash G := by
    unfold hatDash
    rw [wd_congr (k := 0) (by omega) h, wd_congr (k := 1) (by omega) h, wd_congr (k := 2) (by omega) h, wd_congr (k := 3) (by omega) h]
  have hl : bytesL (leftF F) = bytesL (leftF G) := bytesL_congr (fun i hi => by unfold leftF; rw [h i hi])
  unfold showP listP onlyP
  rw [hc, hb, hh, hl, h 93 (by decide), h 10 (by decide), h 91 (by decide), h 92 (by decide), h 94 (by decide), h 45 (by decide)]
theorem byNd_set (F : Nat → Bool) : ∀ i, i < 256 → (byNd F).set i = F i := by
  obtain ⟨a0, a1, a2, a3⟩ := ofWords_wd (wd_lt F 0) (wd_lt F 1) (wd_lt F 2) (wd_lt F 3)
  refine wd_inj (fun k hk => ?_)
  rcases (by omega : k = 0 ∨ k = 1 ∨ k = 2 ∨ k = 3) with rfl | rfl | rfl | rfl
  · exact a0
  · exact a1
  · exact a2
  · exact a3
/-- A set is read as it is shown. -/
theorem show_read (F : Nat → Bool) (h : cnt F 256 ≠ 0) : parsedL (showP F) = [byNd F] := by
  have hn := none_no h (fun i _ => rfl)
  have ht : textT (.leaf (byNd F)) = showP F := by
    unfold textT
    rw [if_pos (by rfl)]
    exact showP_congr (byNd_set F)
  obtain ⟨q, h1, h2⟩ := whole_text (.leaf (byNd F)) ⟨isNd_byNd hn, byNd_fits F, .inl rfl⟩ (by show 1 ≤ 120; decide) rfl
  rw [ht] at h1
  unfold parsedL
  rw [h1]
  exact h2

set_option maxRecDepth 100000 in
set_option maxHeartbeats 40000000 in
theorem shows_c (F : Nat → Bool) (w : World) (hw : Fit5 w) :
    Calls Tryz.prog 3 #[sv F] w fun e w' => e = .returned (.bool true) ∧ Below w.heap.size w w' := by
  obtain ⟨w0, hw0⟩ : ∃ w0, w0 = w.alloc (.cells #[.int .u64 (wd F 0), .int .u64 (wd F 1), .int .u64 (wd F 2), .int .u64 (wd F 3)] 24) := ⟨_, rfl⟩
  have b0 : Below w.heap.size w w0 := by rw [hw0]; exact (Below.refl _ w).alloc (Nat.le_refl _) _
  have hS0 : SB4 w.heap.size F w0 := by rw [hw0]; exact SB4.new hw.f.fit
  have f0 : Fit5 w0 := hw.below b0
  have hsh := fun w hw => show_c F w hw
  have hto := fun w => told0_c F w
  have hrs := fun w => rshow_c F w
  have hsz := fun w => size_c F w
  have hlen := showP_len F
  have hes := fun w => eq_set F w
  obtain ⟨S, hS⟩ : ∃ B : ByteArray, B = ⟨(showP F).toArray⟩ := ⟨_, rfl⟩
  have hSd : S.data.toList = showP F := by rw [hS]
  rw [← hS] at hsh hrs
  have hcn := cnt_le F 256
  have HSH := Lib.hid hsh
  have HTO := Lib.hid hto
  have HRS := Lib.hid hrs
  have HSZ := Lib.hid hsz
  have HSN := Lib.hid fun w hw => shown4_c w hw
  have HW := Lib.hid hw0
  have B0 := Lib.hid b0
  have S0 := Lib.hid hS0
  have F0 := Lib.hid f0
  by_cases hc : cnt F 256 = 0
  · have hse : S = ⟨#[]⟩ := by
      apply Go.WideShapes.bytes_inj
      rw [hSd]
      unfold showP
      rw [if_pos hc]
    rw [hc] at HSZ
    have hpar := fun w (hw : Fit5 w) => parse_row [] (by decide) (by decide +kernel) w hw
    have HP := Lib.hid hpar
    subst hse
    clear hsh hto hrs hsz hw0 b0 hS0 f0 hS hSd hc hpar hw
    unfold sv at HSH HTO HSZ ⊢
    go_enter Tryz.func3, Tryz.ntmps3
    go_wp2_with fail
    rw [← HW.out]
    clear HW
    have z0 := S0.out.a.c0
    have z1 := S0.out.a.c1
    have z2 := S0.out.a.c2
    have z3 := S0.out.a.c3
    go_wp2_with fail
    refine (HSH.out _ S0.out.fit).mono ?_
    rintro e w1 ⟨rfl, hB1⟩
    have S1 := Lib.hid (S0.out.below hB1)
    have F1 := Lib.hid (F0.out.below hB1)
    have B1 := Lib.hid (B0.out.trans (hB1.mono B0.out.size))
    clear S0 F0 B0 hB1 z0 z1 z2 z3 HSH
    have z0 := S1.out.a.c0
    have z1 := S1.out.a.c1
    have z2 := S1.out.a.c2
    have z3 := S1.out.a.c3
    go_wp2_with fail
    refine (HTO.out _).mono ?_
    rintro e w2 ⟨rfl, hB2⟩
    have S2 := Lib.hid (S1.out.below hB2)
    have F2 := Lib.hid (F1.out.below hB2)
    have B2 := Lib.hid (B1.out.trans (hB2.mono B1.out.size))
    clear S1 F1 B1 hB2 z0 z1 z2 z3 HTO
    go_wp2_with fail
    refine (HRS.out _).mono ?_
    rintro e w3 ⟨rfl, hB3⟩
    have S3 := Lib.hid (S2.out.below hB3)
    have F3 := Lib.hid (F2.out.below hB3)
    have B3 := Lib.hid (B2.out.trans (hB3.mono B2.out.size))
    clear S2 F2 B2 hB3 HRS
    go_wp2_with fail
    refine (HSN.out _ F3.out).mono ?_
    rintro e w4 ⟨rfl, hB4⟩
    have S4 := Lib.hid (S3.out.below hB4)
    have F4 := Lib.hid (F3.out.below hB4)
    have B4 := Lib.hid (B3.out.trans (hB4.mono B3.out.size))
    clear S3 F3 B3 hB4 HSN
    go_wp2_with fail
    refine (HP.out _ F4.out).mono ?_
    rintro e w5 ⟨⟨b, o, n, cap, rfl, r5⟩, hB5⟩
    have S5 := Lib.hid (S4.out.below hB5)
    have B5 := Lib.hid (B4.out.trans (hB5.mono B4.out.size))
    clear S4 F4 B4 hB5 HP r5
    have z0 := S5.out.a.c0
    have z1 := S5.out.a.c1
    have z2 := S5.out.a.c2
    have z3 := S5.out.a.c3
    go_wp2_with fail
    refine (HSZ.out _).mono ?_
    rintro e w6 ⟨rfl, hB6⟩
    have B6 := Lib.hid (B5.out.trans (hB6.mono B5.out.size))
    clear S5 B5 hB6 HSZ z0 z1 z2 z3
    go_wp2
    go_ret
    exact ⟨rfl, B6.out⟩
  · have hse : S = ⟨(showP F).toArray⟩ := hS
    have hpl := show_read F hc
    have hpar := fun w (hw : Fit5 w) => parse_row (showP F) (by omega) (by rw [hpl]; simp) w hw
    rw [hpl, ← hS] at hpar
    have HP := Lib.hid hpar
    have hcz : (((cnt F 256 : Nat) : Int) == 0) = false := by rw [beq_eq_false_iff_ne]; omega
    generalize cnt F 256 = nn at *
    clear hsh hto hrs hsz hw0 b0 hS0 f0 hS hSd hc hpar hw hse hpl
    unfold sv at HSH HTO HSZ ⊢
    go_enter Tryz.func3, Tryz.ntmps3
    go_wp2_with fail
    rw [← HW.out]
    clear HW
    have z0 := S0.out.a.c0
    have z1 := S0.out.a.c1
    have z2 := S0.out.a.c2
    have z3 := S0.out.a.c3
    go_wp2_with fail
    refine (HSH.out _ S0.out.fit).mono ?_
    rintro e w1 ⟨rfl, hB1⟩
    have S1 := Lib.hid (S0.out.below hB1)
    have F1 := Lib.hid (F0.out.below hB1)
    have B1 := Lib.hid (B0.out.trans (hB1.mono B0.out.size))
    clear S0 F0 B0 hB1 z0 z1 z2 z3 HSH
    have z0 := S1.out.a.c0
    have z1 := S1.out.a.c1
    have z2 := S1.out.a.c2
    have z3 := S1.out.a.c3
    go_wp2_with fail
    refine (HTO.out _).mono ?_
    rintro e w2 ⟨rfl, hB2⟩
    have S2 := Lib.hid (S1.out.below hB2)
    have F2 := Lib.hid (F1.out.below hB2)
    have B2 := Lib.hid (B1.out.trans (hB2.mono B1.out.size))
    clear S1 F1 B1 hB2 z0 z1 z2 z3 HTO
    go_wp2_with fail
    refine (HRS.out _).mono ?_
    rintro e w3 ⟨rfl, hB3⟩
    have S3 := Lib.hid (S2.out.below hB3)
    have F3 := Lib.hid (F2.out.below hB3)
    have B3 := Lib.hid (B2.out.trans (hB3.mono B2.out.size))
    clear S2 F2 B2 hB3 HRS
    go_wp2_with fail
    refine (HSN.out _ F3.out).mono ?_
    rintro e w4 ⟨rfl, hB4⟩
    have S4 := Lib.hid (S3.out.below hB4)
    have F4 := Lib.hid (F3.out.below hB4)
    have B4 := Lib.hid (B3.out.trans (hB4.mono B3.out.size))
    clear S3 F3 B3 hB4 HSN
    go_wp2_with fail
    refine (HP.out _ F4.out).mono ?_
    rintro e w5 ⟨⟨b, o, n, cap, rfl, r5⟩, hB5⟩
    have S5 := Lib.hid (S4.out.below hB5)
    have B5 := Lib.hid (B4.out.trans (hB5.mono B4.out.size))
    have R5 := Lib.hid r5
    clear S4 F4 B4 hB5 HP r5
    have z0 := S5.out.a.c0
    have z1 := S5.out.a.c1
    have z2 := S5.out.a.c2
    have z3 := S5.out.a.c3
    go_wp2_with fail
    refine (HSZ.out _).mono ?_
    rintro e w6 ⟨rfl, hB6⟩
    have S6 := Lib.hid (S5.out.below hB6)
    have B6 := Lib.hid (B5.out.trans (hB6.mono B5.out.size))
    have hx := (R5.out.below hB6).x.cell 0 _ rfl
    have hn1 : 1 = n := R5.out.len
    subst hn1
    clear S5 B5 hB6 HSZ z0 z1 z2 z3 R5
    have z0 := S6.out.a.c0
    have z1 := S6.out.a.c1
    have z2 := S6.out.a.c2
    have z3 := S6.out.a.c3
    have d0 : w6.cell? ⟨b, o, none⟩ = some (.int .i64 1) := by simpa using hx 0 (.int .i64 1) rfl
    have d1 : w6.cell? ⟨b, o + 1, none⟩ = some (.int .u64 (wd F 0)) := by simpa using hx 1 (.int .u64 (wd F 0)) rfl
    have d2 : w6.cell? ⟨b, o + 2, none⟩ = some (.int .u64 (wd F 1)) := by simpa using hx 2 (.int .u64 (wd F 1)) rfl
    have d3 : w6.cell? ⟨b, o + 3, none⟩ = some (.int .u64 (wd F 2)) := by simpa using hx 3 (.int .u64 (wd F 2)) rfl
    have d4 : w6.cell? ⟨b, o + 4, none⟩ = some (.int .u64 (wd F 3)) := by simpa using hx 4 (.int .u64 (wd F 3)) rfl
    clear hx
    go_wp2_with fail
    go_quiet (fail)
    go_wp2
    go_ret
    exact ⟨rfl, Go.below_drewN B6.out _⟩

end Go.Proofs.YthbldjiibgnfmaaGreatDoor
