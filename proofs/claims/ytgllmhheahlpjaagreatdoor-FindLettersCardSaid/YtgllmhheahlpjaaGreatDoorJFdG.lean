/- The walk of FindRises. -/
import Derived.Test.YtgllmhheahlpjaaGreatDoorJFdF
import Derived.Test.YtgllmhheahlpjaaGreatDoorJMdN
import Derived.Test.YtgllmhheahlpjaaGreatDoorJMbS
import Derived.Test.YtgllmhheahlpjaaGreatDoorJMcQ
import Derived.Laws.Cover3
set_option linter.unusedVariables false
set_option linter.unusedSimpArgs false
set_option maxRecDepth 100000
set_option maxHeartbeats 40000000
namespace Go.Proofs.YtgllmhheahlpjaaGreatDoor
open Go.RowKit Go.Lib Go.Maps Go.WideMaps Go.Proofs.YtgllmhheahlpjaaGreatDoor.Fl
theorem sp_nat {a b : Nat} (h1 : a ≤ b) (h2 : b ≤ 999999999) : sp (floatOfInt .f64 (a : Int)) (floatOfInt .f64 (b : Int)) = some ((a : Int), (b : Int)) := by
 have hv : ∀ a : Nat, a ≤ 999999999 → val (floatOfInt .f64 (a : Int)) = some (a : Int) := fun a h => val_floatOfInt (by have : (2 : Nat) ^ 53 = 9007199254740992 := rfl; omega)
 exact sp_of (hv a (by omega)) (hv b h2) (by omega) (by omega) (by omega)
theorem meet_apart {a b c d : Nat} (h1 : a ≤ b) (h2 : b ≤ c) (h3 : c ≤ d) (h4 : d ≤ 999999999) (w : World) :
  Calls Tryz.prog 35 #[spV (some (a, b)), spV (some (c, d))] w fun e w' => e = .returned (.bool false) ∧ w' = w := by
 refine (meet_both _ _ _ _ _ _ _ _ w (sp_nat h1 (by omega)) (sp_nat h3 h4)).mono ?_
 rintro e w' ⟨rfl, rfl⟩
 exact ⟨by rw [decide_eq_false (by omega)], rfl⟩
theorem from_at {a b : Nat} (h1 : a ≤ b) (h2 : b ≤ 999999999) (w : World) : Calls Tryz.prog 36 #[spV (some (a, b))] w fun e w' => e = .returned (.int .i64 (a : Int)) ∧ w' = w := from_sp (some (a, b)) (fun x y e => by cases e; exact ⟨h1, h2⟩) w
theorem to_at {a b : Nat} (h1 : a ≤ b) (h2 : b ≤ 999999999) (w : World) : Calls Tryz.prog 37 #[spV (some (a, b))] w fun e w' => e = .returned (.int .i64 (b : Int)) ∧ w' = w := to_sp (some (a, b)) (fun x y e => by cases e; exact ⟨h1, h2⟩) w
theorem CL.at0 {X : World} {P : Option Addr} {p : Option Addr} {n cap : Nat} {s : List UInt8} {w : World} {C : Nat → Cp} {F : Nat → Option Nat} (h : CL X P C (allP F s.length)) (hF : FindF p n cap s w C F) {k : Nat} {x : Nat × Nat} (hx : (allP F s.length)[k]? = some x) :
  ∃ g, P = some ⟨g, 0, none⟩ ∧ X.cell? ⟨g, k * 10, none⟩ = some (spV (some (x.1, x.2))) ∧ x.1 ≤ x.2 ∧ x.2 ≤ s.length ∧ F x.1 = some x.2 := by
 obtain ⟨g, e, hc⟩ := h k x hx
 have hm := all_mem hF.bd (List.mem_of_getElem? hx)
 refine ⟨g, e, ?_, hm.2.1, hm.2.2, hm.1⟩
 have := hc 0 (by omega)
 rw [hF.at0 _ _ hm.1] at this
 exact this
section
variable {p : Option Addr} {n cap : Nat} {xs : List Nd} {s : List UInt8} {w : World} {C : Nat → Cp} {F : Nat → Option Nat}
theorem rises_go (hN : Nodes w p n xs) (hbd : bd7 xs s = true) (hF : FindF p n cap s w C F) (hsh : ∀ W, Below w.heap.size w W → Calls Tryz.prog 26 #[] W fun e w' => e = .returned (.bool true) ∧ Below W.heap.size W w') :
  Calls Tryz.prog 7 #[.slice p n cap, .string ⟨s.toArray⟩] w fun e w' => e = .returned (.bool true) ∧ Below w.heap.size w w' := by
 have HBD : Hid (Calls Tryz.prog 25 #[.slice p n cap, .string ⟨s.toArray⟩] w fun e w' => e = .returned (.bool true) ∧ w' = w) := Lib.hid (by have := bounded7_c p n cap xs s w hN; rw [hbd] at this; exact this)
 have HSH := Lib.hid hsh
 have HAL := Lib.hid (fun W (h : Below w.heap.size w W) => fall_c hF W h)
 have HHA := Lib.hid (fun W (h : Below w.heap.size w W) => fhas_c hF W h)
 obtain ⟨R, hR⟩ : ∃ R, R = (fstP F s.length 0).isSome := ⟨_, rfl⟩
 rw [← hR] at HHA
 have hlen := hF.len
 have HF := Lib.hid hF
 obtain ⟨N, hNL⟩ : ∃ N, N = (allP F s.length).length := ⟨_, rfl⟩
 rw [← hNL] at HAL
 have hN9 : N ≤ 1000 := by
  have h1 : ∀ f q, (goP F s.length f q).length ≤ f := fun f => by
   induction f with
   | zero => intro q; exact Nat.le_refl _
   | succ f ih => intro q; cases q with
    | none => exact Nat.zero_le _
    | some x => exact Nat.succ_le_succ (ih _)
  have := h1 (s.length + 2) (fstP F s.length 0)
  rw [hNL]; unfold allP; omega
 have hRN : (decide (0 < N) : Bool) = R := by rw [hR, hNL, Bool.eq_iff_iff]; simpa using all_none (F := F) (n := s.length)
 have HNL := Lib.hid hNL
 have HRN := Lib.hid hRN
 clear hN hbd hF hsh hR hNL hRN
 go_enter Tryz.func7, Tryz.ntmps7
 go_wp2_with fail
 refine HBD.out.mono ?_
 rintro e w0 ⟨rfl, hw0⟩
 obtain rfl := hw0
 go_wp2_with fail
 refine (HSH.out _ (Below.refl _ _)).mono ?_
 rintro e w1 ⟨rfl, hB1⟩
 have HB1 := Lib.hid hB1
 clear hB1
 go_wp2_with fail
 refine (HAL.out _ HB1.out).mono ?_
 rintro e w2 ⟨⟨P, c, rfl, hC⟩, hB2⟩
 have HB2 := Lib.hid (HB1.out.trans (hB2.mono HB1.out.size))
 have HC := Lib.hid hC
 clear hB2 hC
 go_wp2
 go_loopw [6] (fun iv wr => ∃ k : Nat, 1 ≤ k ∧ k ≤ N + 1 ∧ iv = .int .i64 (k : Int) ∧ wr = w2) (fun iv _ => N + 1 - (RowKit.intOf iv).toNat)
 case atStart => exact ⟨1, Nat.le_refl _, by omega, rfl, rfl⟩
 case round =>
  obtain ⟨k, hk1, hk, rfl, rfl⟩ := hrel
  by_cases hlt : k < N
  ·have hli : (k : Int) < (N : Int) := by omega
   obtain ⟨x, hx⟩ : ∃ x, (allP F s.length)[k - 1]? = some x := ⟨(allP F s.length)[k - 1]'(by rw [← HNL.out]; omega), List.getElem?_eq_getElem _⟩
   obtain ⟨y, hy⟩ : ∃ y, (allP F s.length)[k]? = some y := ⟨(allP F s.length)[k]'(by rw [← HNL.out]; omega), List.getElem?_eq_getElem _⟩
   have hr := all_rises HF.out.bd hx (by rw [show k - 1 + 1 = k by omega]; exact hy)
   obtain ⟨g, rfl, c1, x1, x2, _⟩ := HC.out.at0 HF.out hx
   obtain ⟨g2, e2, c2, y1, y2, _⟩ := HC.out.at0 HF.out hy
   obtain rfl : g = g2 := by simpa using e2
   obtain ⟨a, b⟩ := x
   obtain ⟨d, f⟩ := y
   simp only at hr x1 x2 y1 y2 c1 c2
   have HME := Lib.hid (fun w => meet_apart x1 hr.1 y1 (by omega) w)
   have HFY := Lib.hid (fun w => from_at y1 (by omega) w)
   have HTX := Lib.hid (fun w => to_at x1 (by omega) w)
   have HLY := Lib.hid (fun w => len_some d f y1 (by omega) w)
   have q1 : IntKind.i64.wrap ((k : Int) - 1) = ((k - 1 : Nat) : Int) := by rw [show (k : Int) - 1 = ((k - 1 : Nat) : Int) by omega]; simp [IntKind.wrap, IntKind.signed, IntKind.bits]; omega
   have q4 : ((k - 1 : Nat) : Int) < (N : Int) := by omega
   have q5 : k - 1 < N := by omega
   have q6 : ¬ ((d : Int) < (b : Int)) := by omega
   have q7 : ((d : Int) == (b : Int)) = false ∨ f ≠ d := by
    by_cases e : f = d
    ·left; rw [beq_eq_false_iff_ne]; omega
    ·exact .inr e
   have HQ := Lib.hid q7
   clear hx hy e2 q7 hr
   go_wp2_with fail
   refine (HME.out _).mono ?_
   rintro e w3 ⟨rfl, rfl⟩
   go_wp2_with fail
   refine (HFY.out _).mono ?_
   rintro e w3 ⟨rfl, rfl⟩
   go_wp2_with fail
   refine (HTX.out _).mono ?_
   rintro e w3 ⟨rfl, rfl⟩
   by_cases hz : f = d
   ·have q8 : ((d : Int) == (b : Int)) = false := by
     rcases HQ.out with q | q
     ·exact q
     ·exact absurd hz q
    have HLZ : Hid (∀ w, Calls Tryz.prog 38 #[spV (some (d, f))] w fun e w' => e = .returned (.int .i64 0) ∧ w' = w) := Lib.hid (fun w => by
     have := HLY.out w
     rw [show (((f - d : Nat)) : Int) = 0 by omega] at this; exact this)
    clear hz
    go_wp2_with fail
    refine (HLZ.out _).mono ?_
    rintro e w3 ⟨rfl, rfl⟩
    go_wp2_with fail
    refine (HFY.out _).mono ?_
    rintro e w3 ⟨rfl, rfl⟩
    go_wp2_with fail
    refine (HTX.out _).mono ?_
    rintro e w3 ⟨rfl, rfl⟩
    go_wp2
    go_roundw
    case rel => exact ⟨k + 1, by omega, by omega, by go_num, by first | rfl | trivial⟩
    case measure => (simp [RowKit.intOf]) <;> omega
   ·obtain ⟨L, hL⟩ : ∃ L : Int, L = ((f - d : Nat) : Int) := ⟨_, rfl⟩
    have HLZ : Hid (∀ w, Calls Tryz.prog 38 #[spV (some (d, f))] w fun e w' => e = .returned (.int .i64 L) ∧ w' = w) := Lib.hid (fun w => by
     have := HLY.out w
     rw [← hL] at this; exact this)
    have q8 : (L == 0) = false := by rw [beq_eq_false_iff_ne]; omega
    clear hz hL
    go_wp2_with fail
    refine (HLZ.out _).mono ?_
    rintro e w3 ⟨rfl, rfl⟩
    go_wp2
    go_roundw
    case rel => exact ⟨k + 1, by omega, by omega, by go_num, by first | rfl | trivial⟩
    case measure => (simp [RowKit.intOf]) <;> omega
  ·have hli : ¬ (k : Int) < (N : Int) := by omega
   have HCALL := Lib.hid (HHA.out wr HB2.out)
   clear HHA
   cases R with
   | true =>
    have h0 : 0 < N := by have := HRN.out; simpa using this
    have q1 : (0 : Int) < (N : Int) := by omega
    go_wp2_with fail
    refine HCALL.out.mono ?_
    rintro e w3 ⟨rfl, hB3⟩
    have HB3 := Lib.hid (HB2.out.trans (hB3.mono HB2.out.size))
    clear hB3
    go_wp2
    go_ret
    exact ⟨rfl, HB3.out⟩
   | false =>
    obtain rfl : N = 0 := by have := HRN.out; simpa using this
    go_wp2_with fail
    refine HCALL.out.mono ?_
    rintro e w3 ⟨rfl, hB3⟩
    have HB3 := Lib.hid (HB2.out.trans (hB3.mono HB2.out.size))
    clear hB3
    go_wp2
    go_ret
    exact ⟨rfl, HB3.out⟩
end
theorem findRisesB (p : Option Addr) (n cap : Nat) (xs : List Nd) (t : ByteArray) (w : World) (hN : Nodes w p n xs) (hs : t.size ≤ reachBytes) (hf : Fit4 w) :
  Calls Tryz.prog 7 #[.slice p n cap, .string t] w fun e w' => e = .returned (.bool true) ∧ Below w.heap.size w w' := by
 obtain ⟨s, rfl⟩ : ∃ s : List UInt8, t = ⟨s.toArray⟩ := ⟨t.data.toList, by simp⟩
 have hsh : ∀ W, Below w.heap.size w W → Calls Tryz.prog 26 #[] W fun e w' => e = .returned (.bool true) ∧ Below W.heap.size W w' := fun W hB => shown7_c W (hf.below hB) (hf.below hB).f.fit.tab (hf.below hB).f.fit.pos
 cases hbd : bd7 xs s with
 | true =>
  obtain ⟨C, F, hF⟩ := find_calls (cap := cap) (s := s) hN hbd hf.f.fit.tab hf.f.fit.pos
  exact rises_go hN hbd hF hsh
 | false =>
  have HBD : Hid (Calls Tryz.prog 25 #[.slice p n cap, .string ⟨s.toArray⟩] w fun e w' => e = .returned (.bool false) ∧ w' = w) := Lib.hid (by have := bounded7_c p n cap xs s w hN; rw [hbd] at this; exact this)
  have HSH := Lib.hid hsh
  clear hN hbd hsh hf hs
  go_enter Tryz.func7, Tryz.ntmps7
  go_wp2_with fail
  refine HBD.out.mono ?_
  rintro e w0 ⟨rfl, hw0⟩
  obtain rfl := hw0
  go_wp2_with fail
  refine (HSH.out _ (Below.refl _ _)).mono ?_
  rintro e w1 ⟨rfl, hB1⟩
  have HB1 := Lib.hid hB1
  clear hB1
  go_wp2
  go_ret
  exact ⟨rfl, HB1.out⟩
end Go.Proofs.YtgllmhheahlpjaaGreatDoor
