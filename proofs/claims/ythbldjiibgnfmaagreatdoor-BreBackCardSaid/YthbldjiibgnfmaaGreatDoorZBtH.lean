/- BreBack: the walk. -/
import Derived.Test.YthbldjiibgnfmaaGreatDoorZBtI
import Derived.Test.YthbldjiibgnfmaaGreatDoorZBrKj
import Derived.Test.YthbldjiibgnfmaaGreatDoorZRxL
namespace Go.Proofs.YthbldjiibgnfmaaGreatDoor
open Go.RowKit Go.Lib
set_option linter.unusedVariables false
set_option linter.unusedSimpArgs false

theorem whole_of_parsed {s : List UInt8} (h : parsedL s ≠ []) : ∃ q, wholeP s = .ok q := by
  cases hq : wholeP s with
  | ok q => exact ⟨q, rfl⟩
  | error e =>
    unfold parsedL at h
    rw [hq] at h
    exact absurd rfl h
/-- A row of nodes at whatever place. -/
structure Row1 (w : World) (xs : List Nd) (b o n cap : Nat) : Prop where
  x : NodesAt w b o xs
  len : xs.length = n
  pos : 1 ≤ n
  n : n ≤ 121
theorem Row1.below {w w' : World} {xs : List Nd} {b o n cap : Nat} (h : Row1 w xs b o n cap) (hB : Below w.heap.size w w') : Row1 w' xs b o n cap := ⟨h.x.below hB h.x.lt, h.len, h.pos, h.n⟩
theorem parse_row (s : List UInt8) (hs : s.length ≤ 100000) (hne : parsedL s ≠ []) (w : World) (hw : Fit5 w) :
    Calls Tryz.prog 10 #[.string ⟨s.toArray⟩] w fun e w' => (∃ b o n cap, e = .returned (.tuple #[.slice (some ⟨b, o, none⟩) n cap, .int .i64 0, .int .i64 0]) ∧ Row1 w' (parsedL s) b o n cap) ∧ Below w.heap.size w w' := by
  refine (bparse_c s hs w hw.m hw.s).mono ?_
  rintro e w' ⟨hout, hB⟩
  refine ⟨?_, hB⟩
  obtain ⟨p, n, cap, a, z, he, hx, hn, hok, her⟩ := pout_nodes hout
  obtain ⟨q, hq⟩ := whole_of_parsed hne
  obtain ⟨rfl, rfl⟩ := hok q hq
  have hl := hx.len
  have h1 : 1 ≤ n := by have := List.length_pos_iff.2 hne; omega
  obtain ⟨b, o, rfl⟩ := hx.ptr h1
  exact ⟨b, o, n, cap, he, hx.at' h1 b o rfl, hl, h1, hn⟩
theorem parse_er (s : List UInt8) (hs : s.length ≤ 100000) (z : Int) (a : Nat) (h : wholeP s = .error (z, a)) (w : World) (hw : Fit5 w) :
    Calls Tryz.prog 10 #[.string ⟨s.toArray⟩] w fun e w' => e = .returned (.tuple #[.slice none 0 0, .int .i64 (a : Int), .int .i64 z]) ∧ Below w.heap.size w w' := by
  refine (bparse_c s hs w hw.m hw.s).mono ?_
  rintro e w' ⟨hout, hB⟩
  unfold POut at hout
  rw [h] at hout
  exact ⟨hout, hB⟩
theorem print_row {xs : List Nd} {t : T} (hp : IsPat xs t) (hfit : ∀ x ∈ xs, x.Fits) (hpr : parsedL (textT t) = xs) {b o n cap : Nat} (w : World) (hw : Fit5 w) (h : Row1 w xs b o n cap) :
    Calls Tryz.prog 12 #[.slice (some ⟨b, o, none⟩) n cap] w fun e w' => e = .returned (.tuple #[.string ⟨(textT t).toArray⟩, .int .i64 0]) ∧ Below w.heap.size w w' := by
  have h1 := print_in b o n cap xs t hp h.len (fun i x hx => hfit x (List.mem_of_getElem? hx)) w hw h.x
  have e : printsP xs t = true := by unfold printsP; rw [hpr]; simp
  rw [e, if_pos rfl, if_pos rfl] at h1
  exact h1
theorem text_row {xs : List Nd} {t : T} (hp : IsPat xs t) (hfit : ∀ x ∈ xs, x.Fits) {b o n cap : Nat} (w : World) (hw : Fit5 w) (h : Row1 w xs b o n cap) :
    Calls Tryz.prog 13 #[.slice (some ⟨b, o, none⟩) n cap] w fun e w' => e = .returned (.string ⟨(text t).toArray⟩) ∧ Below w.heap.size w w' :=
  text_in b o n cap xs h.len h.pos (by have := hp.2.2.2.1; have := h.len; omega) (fun i x hx => hfit x (List.mem_of_getElem? hx)) t hp w hw.f h.x

set_option maxRecDepth 100000 in
set_option maxHeartbeats 40000000 in
theorem bback_wide (s : ByteArray) (hs : 300 < s.size) (w : World) (hw : Fit5 w) :
    Calls Tryz.prog 4 #[.string s] w fun e w' => e = .returned (.bool true) ∧ Below w.heap.size w w' := by
  have HS := Lib.hid (shown4_c w hw)
  have h1 : ((300 : Int) < s.size) = True := by simp; omega
  go_enter Tryz.func4, Tryz.ntmps4
  go_wp2_with fail
  refine HS.out.mono ?_
  rintro e w1 ⟨rfl, hB1⟩
  go_wp2
  go_ret
  exact ⟨rfl, hB1⟩

set_option maxRecDepth 100000 in
set_option maxHeartbeats 40000000 in
theorem back_er (l : List UInt8) (hs : l.length ≤ 300) (z : Int) (a : Nat) (hq : wholeP l = .error (z, a)) (w : World) (hw : Fit5 w) :
    Calls Tryz.prog 4 #[.string ⟨l.toArray⟩] w fun e w' => e = .returned (.bool true) ∧ Below w.heap.size w w' := by
  have HS := Lib.hid (shown4_c w hw)
  have HW := Lib.hid hw
  have HP := Lib.hid fun w hw => parse_er l (by omega) z a hq w hw
  have hsz : (⟨l.toArray⟩ : ByteArray).size = l.length := by simp [ByteArray.size]
  have h1 : ((300 : Int) < l.length) = False := by simp; omega
  have her := (wholeP_er l (z, a) hq).2
  simp only at her
  have z0 : (z == 0) = false := by rw [beq_eq_false_iff_ne]; omega
  have z1 : (z != 0) = true := by rw [bne_iff_ne]; omega
  clear hq hw her
  go_enter Tryz.func4, Tryz.ntmps4
  go_wp2_with fail
  refine HS.out.mono ?_
  rintro e w1 ⟨rfl, hB1⟩
  go_wp2_with fail
  refine (HP.out _ (HW.out.below hB1)).mono ?_
  rintro e w2 ⟨rfl, hB2⟩
  have hb := hB1.trans (hB2.mono hB1.size)
  clear hB1 hB2 HP HS HW
  go_wp2
  go_ret
  exact ⟨rfl, hb⟩

set_option maxRecDepth 100000 in
set_option maxHeartbeats 40000000 in
theorem back_ok (l : List UInt8) (hs : l.length ≤ 300) (q : BRd) (hq : wholeP l = .ok q) (w : World) (hw : Fit5 w) :
    Calls Tryz.prog 4 #[.string ⟨l.toArray⟩] w fun e w' => e = .returned (.bool true) ∧ Below w.heap.size w w' := by
  obtain ⟨t, hp, hpr, hts, hok⟩ := whole_pat l q hq
  have hpl : parsedL l = q.l := by unfold parsedL; rw [hq]
  have hfit := (wholeP_fl l q hq).f
  have h1 := wholeP_one l q hq
  have hne : parsedL l ≠ [] := by rw [hpl]; intro e; rw [e] at h1; simp at h1
  have htl := textT_len t hok
  have HS := Lib.hid (shown4_c w hw)
  have HW := Lib.hid hw
  have hP1 := fun w hw => parse_row l (by omega) hne w hw
  have hP2 := fun w hw => parse_row (textT t) (by omega) (by rw [hpr, ← hpl]; exact hne) w hw
  rw [hpl] at hP1
  rw [hpr] at hP2
  have hPR := fun b o n cap w hw h => print_row (b := b) (o := o) (n := n) (cap := cap) hp hfit hpr w hw h
  have hTX := fun b o n cap w hw h => text_row (b := b) (o := o) (n := n) (cap := cap) hp hfit w hw h
  have hsz : (⟨l.toArray⟩ : ByteArray).size = l.length := by simp [ByteArray.size]
  have h1 : ((300 : Int) < l.length) = False := by simp; omega
  obtain ⟨S, hS⟩ : ∃ S : ByteArray, S = ⟨(textT t).toArray⟩ := ⟨_, rfl⟩
  obtain ⟨U, hU⟩ : ∃ S : ByteArray, S = ⟨(text t).toArray⟩ := ⟨_, rfl⟩
  rw [← hS] at hP2 hPR
  rw [← hU] at hTX
  generalize q.l = xs at *
  have P1 := Lib.hid hP1
  have P2 := Lib.hid hP2
  have PR := Lib.hid hPR
  have TX' := Lib.hid hTX
  clear hq hw hP1 hP2 hPR hTX hS hU hp hpr hts hok hpl hfit hne htl
  go_enter Tryz.func4, Tryz.ntmps4
  go_wp2_with fail
  refine HS.out.mono ?_
  rintro e w1 ⟨rfl, hB1⟩
  have f1 := HW.out.below hB1
  clear HS HW
  go_wp2_with fail
  refine (P1.out _ f1).mono ?_
  rintro e w2 ⟨⟨b, o, n, cap, rfl, r2⟩, hB2⟩
  have f2 := f1.below hB2
  have b2 := hB1.trans (hB2.mono hB1.size)
  have R2 := Lib.hid r2
  clear P1 f1 hB1 hB2 r2
  go_wp2_with fail
  refine (PR.out _ _ _ _ _ f2 R2.out).mono ?_
  rintro e w3 ⟨rfl, hB3⟩
  have f3 := f2.below hB3
  have R3 := Lib.hid (R2.out.below hB3)
  have b3 := b2.trans (hB3.mono b2.size)
  clear f2 R2 b2 hB3
  go_wp2_with fail
  refine (P2.out _ f3).mono ?_
  rintro e w4 ⟨⟨b', o', n', cap', rfl, r4⟩, hB4⟩
  have f4 := f3.below hB4
  have R4 := Lib.hid (R3.out.below hB4)
  have M4 := Lib.hid r4
  have b4 := b3.trans (hB4.mono b3.size)
  clear P2 f3 R3 b3 hB4 r4
  go_wp2_with fail
  refine (PR.out _ _ _ _ _ f4 M4.out).mono ?_
  rintro e w5 ⟨rfl, hB5⟩
  have f5 := f4.below hB5
  have R5 := Lib.hid (R4.out.below hB5)
  have M5 := Lib.hid (M4.out.below hB5)
  have b5 := b4.trans (hB5.mono b4.size)
  clear PR f4 R4 M4 b4 hB5
  go_wp2_with fail
  refine (TX'.out _ _ _ _ _ f5 M5.out).mono ?_
  rintro e w6 ⟨rfl, hB6⟩
  have f6 := f5.below hB6
  have R6 := Lib.hid (R5.out.below hB6)
  have b6 := b5.trans (hB6.mono b5.size)
  clear f5 R5 M5 b5 hB6
  go_wp2_with fail
  refine (TX'.out _ _ _ _ _ f6 R6.out).mono ?_
  rintro e w7 ⟨rfl, hB7⟩
  have b7 := b6.trans (hB7.mono b6.size)
  clear f6 R6 TX' b6 hB7
  go_wp2
  go_ret
  exact ⟨rfl, b7⟩

/-- **BreBack holds of any text.** -/
theorem breBackB (s : ByteArray) (w : World) (_ : s.size ≤ Go.reachBytes) (hw : Fit5 w) :
    Calls Tryz.prog 4 #[.string s] w fun e w' => e = .returned (.bool true) ∧ Below w.heap.size w w' := by
  by_cases h : 300 < s.size
  · exact bback_wide s h w hw
  · have e : s = ⟨s.data.toList.toArray⟩ := by simp
    have hl : s.data.toList.length ≤ 300 := by simp; omega
    rw [e]
    cases hq : wholeP s.data.toList with
    | ok q => exact back_ok _ hl q hq w hw
    | error er =>
      obtain ⟨z, a⟩ := er
      exact back_er _ hl z a hq w hw

end Go.Proofs.YthbldjiibgnfmaaGreatDoor
