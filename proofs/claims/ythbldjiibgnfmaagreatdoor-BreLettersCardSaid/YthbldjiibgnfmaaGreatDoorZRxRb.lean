/- The reference's hex, natural, Digits. -/
import Derived.Test.YthbldjiibgnfmaaGreatDoorZRxU
import Derived.Test.YthbldjiibgnfmaaGreatDoorZRxX
import Derived.BigQuiet
import Derived.Deep.RegionHeld3
import Derived.Laws.DeepStrings4
import Derived.Test.YthbldjiibgnfmaaGreatDoorZRxIt
namespace Go.Proofs.YthbldjiibgnfmaaGreatDoor
open Go.RowKit Go.Lib
set_option linter.unusedVariables false
set_option linter.unusedSimpArgs false

theorem cut16 : ∀ q, q < 16 → ((⟨#[48, 49, 50, 51, 52, 53, 54, 55, 56, 57, 97, 98, 99, 100, 101, 102]⟩ : ByteArray).extract q (q + 1)).data.toList = [dig q] := by decide +kernel
theorem cut16' (q : Nat) (h : q < 16) : (⟨#[48, 49, 50, 51, 52, 53, 54, 55, 56, 57, 97, 98, 99, 100, 101, 102]⟩ : ByteArray).extract q (q + 1) = ⟨#[dig q]⟩ := by
  apply ByteArray.ext
  apply Array.ext'
  exact cut16 q h
theorem slice16 (q : Nat) (h : q < 16) (w : World) : (Instr.slice 9 (.string ⟨#[48, 49, 50, 51, 52, 53, 54, 55, 56, 57, 97, 98, 99, 100, 101, 102]⟩) (some (.int .i64 (q : Int))) (some (.int .i64 ((q : Int) + 1))) none).run Tryz.prog w = .ok (.string ⟨#[dig q]⟩) w := by
  have hs : (⟨#[48, 49, 50, 51, 52, 53, 54, 55, 56, 57, 97, 98, 99, 100, 101, 102]⟩ : ByteArray).size = 16 := rfl
  rw [run_slice_string_if (P := Tryz.prog) w 9 _ .i64 .i64 (q : Int) ((q : Int) + 1) Tryz.underlying9, if_pos ⟨by omega, by rw [hs]; omega⟩, if_pos ⟨by omega, by omega⟩]
  rw [show ((q : Int) + 1).toNat = q + 1 by omega, show ((q : Int)).toNat = q by omega, cut16' q h]
theorem hexl_succ (l : List UInt8) (k : Nat) (h : k < l.length) : hexl (l.take (k + 1)) = hexl (l.take k) ++ [dig (l[k].toNat / 16), dig (l[k].toNat % 16)] := by
  unfold hexl
  rw [List.take_succ_eq_append_getElem h, List.flatMap_append]
  rfl
theorem app3 (a b c : List UInt8) : (⟨a.toArray⟩ : ByteArray) ++ ⟨b.toArray⟩ ++ ⟨c.toArray⟩ = ⟨(a ++ (b ++ c)).toArray⟩ := by
  apply ByteArray.ext
  apply Array.ext'
  simp
set_option maxRecDepth 100000 in
set_option maxHeartbeats 8000000 in
theorem hex_c (l : List UInt8) (hl : l.length ≤ 100000) (w : World) :
    Calls Tryz.prog 62 #[.string ⟨l.toArray⟩] w fun e w' => e = .returned (.string ⟨(hexl l).toArray⟩) ∧ Below w.heap.size w w' := by
  have hsz : (⟨l.toArray⟩ : ByteArray).size = l.length := by simp [ByteArray.size]
  go_enter Tryz.func62, Tryz.ntmps62
  go_wp2
  go_loopw [3, 4] (fun v i wr => ∃ k : Nat, k ≤ l.length ∧ i = .int .i64 k ∧ v = .string ⟨(hexl (l.take k)).toArray⟩ ∧ Below w.heap.size w wr) (fun _ i _ => l.length - (RowKit.intOf i).toNat)
  case atStart => exact ⟨0, by omega, rfl, rfl, Below.refl _ _⟩
  case round =>
    obtain ⟨k, hk, rfl, rfl, hB⟩ := hrel
    by_cases hlt : k < l.length
    · obtain ⟨c, hc⟩ : ∃ c : UInt8, c = l[k] := ⟨_, rfl⟩
      have hs1 := hexl_succ l k hlt
      rw [← hc] at hs1
      have hx1 : ∀ w, (Instr.index 9 (.string ⟨l.toArray⟩) (.int .i64 (k : Int))).run Tryz.prog w = .ok (.int .u8 (c.toNat : Int)) w := fun w => by
        rw [run_index_string (P := Tryz.prog) w 9 _ .i64 k Tryz.underlying9, dif_pos ⟨by omega, by rw [hsz]; omega⟩]
        simp [hc]
        rfl
      have hc256 := c.toNat_lt
      generalize c.toNat = C at *
      obtain ⟨a, ha⟩ : ∃ a : Nat, a = C / 16 := ⟨_, rfl⟩
      obtain ⟨m, hm⟩ : ∃ m : Nat, m = C % 16 := ⟨_, rfl⟩
      rw [← ha, ← hm] at hs1
      have e1 : (C : Int).tdiv 16 = (a : Int) := by rw [Int.tdiv_eq_ediv_of_nonneg (by omega)]; omega
      have e1' : (C : Int) / 16 = (a : Int) := by omega
      have e2 : (C : Int).tmod 16 = (m : Int) := by rw [Int.tmod_eq_emod_of_nonneg (by omega)]; omega
      have e0 : IntKind.i64.wrap (C : Int) = (C : Int) := by simp [IntKind.wrap, IntKind.signed, IntKind.bits]; omega
      have e3 : IntKind.i64.wrap ((a : Int) + 1) = (a : Int) + 1 := by simp [IntKind.wrap, IntKind.signed, IntKind.bits]; omega
      have e4 : IntKind.i64.wrap ((m : Int) + 1) = (m : Int) + 1 := by simp [IntKind.wrap, IntKind.signed, IntKind.bits]; omega
      have e5 : IntKind.i64.wrap (a : Int) = (a : Int) := by simp [IntKind.wrap, IntKind.signed, IntKind.bits]; omega
      have a16 : a < 16 := by omega
      have m16 : m < 16 := by omega
      have x1 := fun w => slice16 a a16 w
      have x2 := fun w => slice16 m m16 w
      have hlt1 : ((k : Int) < l.length) = True := by simp; omega
      have hL : (hexl (l.take k)).length ≤ 200000 := by rw [hexl_len, List.length_take]; omega
      have hL1 : (9223372036854775807 < (hexl (l.take k)).length + 1) = False := by simp; omega
      have hL2 : (9223372036854775807 < (hexl (l.take k)).length + 1 + 1) = False := by simp; omega
      have HS := Lib.hid hs1
      clear hs1 ha hm hc
      go_wp2_with fail
      go_quiet (fail)
      go_wp2
      go_roundw
      case rel =>
        refine ⟨k + 1, by omega, by simp, ?_, by first | exact hB | exact Go.below_drewN hB _⟩
        rw [HS.out]
        have := app3 (hexl (l.take k)) [dig a] [dig m]
        simpa using this
      case measure => (simp [RowKit.intOf]) <;> omega
    · obtain rfl : k = l.length := by omega
      have hlt1 : ((l.length : Int) < l.length) = False := by simp
      have e : l.take l.length = l := List.take_length
      rw [e]
      clear e
      go_wp2
      go_ret
      exact ⟨rfl, hB⟩

end Go.Proofs.YthbldjiibgnfmaaGreatDoor

namespace Go.Proofs.YthbldjiibgnfmaaGreatDoor
open Go.RowKit
set_option linter.unusedVariables false
set_option linter.unusedSimpArgs false

set_option maxRecDepth 100000 in
theorem first_neg (p : Option Addr) (n cap : Nat) (w : World) :
    Calls Tryz.prog 83 #[.slice p n cap, .int .i64 (-1)] w fun e w' => e = .returned (.int .i64 (-1)) ∧ Below w.heap.size w w' := by
  go_enter Tryz.func83, Tryz.ntmps83
  go_wp2
  go_ret
  exact ⟨rfl, Below.refl _ _⟩

/-- What first answers at i. -/
def FirstAt (b o n cap : Nat) (xs : List Nd) (i : Nat) (r : Int) : Prop :=
  -1 ≤ r ∧ r ≤ i ∧ (∀ c : Nat, r = c ↔ T.Ends (fun i => xs[i]?) c i) ∧ ∀ w, NodesAt w b o xs →
    Calls Tryz.prog 83 #[.slice (some ⟨b, o, none⟩) n cap, .int .i64 (i : Int)] w fun e w' => e = .returned (.int .i64 r) ∧ Below w.heap.size w w'

section
variable (b o n cap : Nat) (xs : List Nd) (i : Nat) (hi : i < n) (kd : Int) (w0 w1 w2 w3 : Nat) (xa xb m M xn : Int) (hx : xs[i]? = some ⟨kd, w0, w1, w2, w3, xa, xb, m, M, xn⟩) (hnd : isNd ⟨kd, w0, w1, w2, w3, xa, xb, m, M, xn⟩ = true)
include hi hx hnd

set_option maxRecDepth 100000 in
set_option maxHeartbeats 4000000 in
theorem first_leaf (hk : kd = 0 ∨ kd = 1 ∨ kd = 2 ∨ kd = 3 ∨ kd = 8) : FirstAt b o n cap xs i i := by
  have he := T.ends_leaf (l := fun i => xs[i]?) hx hnd hk
  have hu : ∀ c : Nat, ((i : Int) = c ↔ T.Ends (fun i => xs[i]?) c i) := fun c => by
    constructor
    · intro h
      obtain rfl : c = i := by omega
      exact he
    · intro h
      rw [h.uniq he]
  refine ⟨by omega, by omega, hu, fun w hw => ?_⟩
  clear hu
  have d := hw.cell i _ hx
  have d0 : w.cell? ⟨b, o + i * 10, none⟩ = some (.int .i64 kd) := d 0 _ rfl
  have n4 : (kd == 4) = false := by rw [beq_eq_false_iff_ne]; omega
  have n5 : (kd == 5) = false := by rw [beq_eq_false_iff_ne]; omega
  have n6 : (kd == 6) = false := by rw [beq_eq_false_iff_ne]; omega
  have n7 : (kd == 7) = false := by rw [beq_eq_false_iff_ne]; omega
  have hi1 : (i : Int) < n := by omega
  have hi0 : ((i : Int) < 0) = False := by simp
  clear d he hx hnd hk
  go_enter Tryz.func83, Tryz.ntmps83
  go_wp2
  go_ret
  exact ⟨rfl, Below.refl _ _⟩
end

section
variable (b o n cap : Nat) (xs : List Nd) (hlen : xs.length = n) (hn : n ≤ 1000)
include hlen hn

set_option maxRecDepth 100000 in
set_option maxHeartbeats 4000000 in
/-- A node of kind 6 or 7. -/
theorem first_one (kd : Int) (hk : kd = 6 ∨ kd = 7) (i : Nat) (hi : i < n) (w0 w1 w2 w3 : Nat) (xa xb m M xn : Int) (hx : xs[i]? = some ⟨kd, w0, w1, w2, w3, xa, xb, m, M, xn⟩)
    (hE : ∀ c : Nat, T.Ends (fun i => xs[i]?) c i ↔ 1 ≤ i ∧ xa = (i : Int) - 1 ∧ T.Ends (fun i => xs[i]?) c (i - 1)) (ih : ∀ j, j < i → ∃ r, FirstAt b o n cap xs j r) : ∃ r, FirstAt b o n cap xs i r := by
  have hi1 : (i : Int) < n := by omega
  have hi0 : ((i : Int) < 0) = False := by simp
  have hw : IntKind.i64.wrap ((i : Int) - 1) = (i : Int) - 1 := by simp [IntKind.wrap, IntKind.signed, IntKind.bits]; omega
  have n4 : (kd == 4) = false := by rw [beq_eq_false_iff_ne]; omega
  have n5 : (kd == 5) = false := by rw [beq_eq_false_iff_ne]; omega
  by_cases ha : xa = (i : Int) - 1
  · have ha1 : (xa == (i : Int) - 1) = true := by simp [ha]
    obtain ⟨r, hr0, hr1, hr2, hr3⟩ : ∃ r : Int, -1 ≤ r ∧ r ≤ i ∧ (∀ c : Nat, r = c ↔ T.Ends (fun i => xs[i]?) c i) ∧ ∀ w, NodesAt w b o xs → Calls Tryz.prog 83 #[.slice (some ⟨b, o, none⟩) n cap, .int .i64 ((i : Int) - 1)] w fun e w' => e = .returned (.int .i64 r) ∧ Below w.heap.size w w' := by
      by_cases h0 : i = 0
      · subst h0
        refine ⟨-1, by omega, by omega, fun c => ⟨fun h => by omega, fun h => by have := (hE c).1 h; omega⟩, fun w hw => ?_⟩
        exact first_neg _ _ _ w
      · obtain ⟨j, rfl⟩ : ∃ j, i = j + 1 := ⟨i - 1, by omega⟩
        obtain ⟨r, h1, h2, h3, h4⟩ := ih j (by omega)
        refine ⟨r, h1, by omega, fun c => ?_, fun w hw => ?_⟩
        · rw [hE c, h3 c]
          constructor
          · exact fun h => ⟨by omega, ha, h⟩
          · exact fun h => h.2.2
        · have := h4 w hw
          rw [show ((j + 1 : Nat) : Int) - 1 = j by omega]
          exact this
    refine ⟨r, hr0, hr1, hr2, fun w hW => ?_⟩
    have HC := Lib.hid (hr3 w hW)
    have d := hW.cell i _ hx
    have d0 : w.cell? ⟨b, o + i * 10, none⟩ = some (.int .i64 kd) := d 0 _ rfl
    have d5 : w.cell? ⟨b, o + i * 10 + 5, none⟩ = some (.int .i64 xa) := d 5 _ rfl
    clear d hx hE ih hr2 hr3 hr0 hr1 ha
    rcases hk with rfl | rfl
    · go_enter Tryz.func83, Tryz.ntmps83
      go_wp2_with fail
      refine HC.out.mono ?_
      rintro e w1 ⟨rfl, hB⟩
      go_wp2
      go_ret
      exact ⟨rfl, hB⟩
    · go_enter Tryz.func83, Tryz.ntmps83
      go_wp2_with fail
      refine HC.out.mono ?_
      rintro e w1 ⟨rfl, hB⟩
      go_wp2
      go_ret
      exact ⟨rfl, hB⟩
  · refine ⟨-1, by omega, by omega, fun c => ⟨fun h => by omega, fun h => absurd ((hE c).1 h).2.1 ha⟩, fun w hW => ?_⟩
    have ha1 : (xa == (i : Int) - 1) = false := by rw [beq_eq_false_iff_ne]; exact ha
    have d := hW.cell i _ hx
    have d0 : w.cell? ⟨b, o + i * 10, none⟩ = some (.int .i64 kd) := d 0 _ rfl
    have d5 : w.cell? ⟨b, o + i * 10 + 5, none⟩ = some (.int .i64 xa) := d 5 _ rfl
    clear d hx hE ih ha
    rcases hk with rfl | rfl
    · go_enter Tryz.func83, Tryz.ntmps83
      go_wp2
      go_ret
      exact ⟨rfl, Below.refl _ _⟩
    · go_enter Tryz.func83, Tryz.ntmps83
      go_wp2
      go_ret
      exact ⟨rfl, Below.refl _ _⟩

set_option maxRecDepth 100000 in
set_option maxHeartbeats 4000000 in
/-- A node of kind 4 or 5. -/
theorem first_two (kd : Int) (hk : kd = 4 ∨ kd = 5) (i : Nat) (hi : i < n) (w0 w1 w2 w3 : Nat) (xa xb m M xn : Int) (hx : xs[i]? = some ⟨kd, w0, w1, w2, w3, xa, xb, m, M, xn⟩)
    (hE : ∀ d : Nat, T.Ends (fun i => xs[i]?) d i ↔ ∃ c, 1 ≤ i ∧ xb = (i : Int) - 1 ∧ T.Ends (fun i => xs[i]?) c (i - 1) ∧ 1 ≤ c ∧ xa = (c : Int) - 1 ∧ T.Ends (fun i => xs[i]?) d (c - 1)) (ih : ∀ j, j < i → ∃ r, FirstAt b o n cap xs j r) : ∃ r, FirstAt b o n cap xs i r := by
  have hi1 : (i : Int) < n := by omega
  have hi0 : ((i : Int) < 0) = False := by simp
  have hw : IntKind.i64.wrap ((i : Int) - 1) = (i : Int) - 1 := by simp [IntKind.wrap, IntKind.signed, IntKind.bits]; omega
  by_cases hb : xb = (i : Int) - 1
  · have hb1 : (xb == (i : Int) - 1) = true := by simp [hb]
    obtain ⟨r, hr0, hr1, hr2, hr3⟩ : ∃ r : Int, -1 ≤ r ∧ (r ≤ (i : Int) - 1) ∧ (∀ c : Nat, r = c ↔ 1 ≤ i ∧ T.Ends (fun i => xs[i]?) c (i - 1)) ∧ ∀ w, NodesAt w b o xs → Calls Tryz.prog 83 #[.slice (some ⟨b, o, none⟩) n cap, .int .i64 ((i : Int) - 1)] w fun e w' => e = .returned (.int .i64 r) ∧ Below w.heap.size w w' := by
      by_cases h0 : i = 0
      · subst h0
        refine ⟨-1, by omega, by omega, fun c => ⟨fun h => by omega, fun h => by omega⟩, fun w hw => ?_⟩
        exact first_neg _ _ _ w
      · obtain ⟨j, rfl⟩ : ∃ j, i = j + 1 := ⟨i - 1, by omega⟩
        obtain ⟨r, h1, h2, h3, h4⟩ := ih j (by omega)
        refine ⟨r, h1, by omega, fun c => ?_, fun w hw => ?_⟩
        · rw [h3 c]
          constructor
          · exact fun h => ⟨by omega, h⟩
          · exact fun h => h.2
        · have := h4 w hw
          rw [show ((j + 1 : Nat) : Int) - 1 = j by omega]
          exact this
    have hwr : IntKind.i64.wrap (r - 1) = r - 1 := by simp [IntKind.wrap, IntKind.signed, IntKind.bits]; omega
    by_cases hr : r < 1
    · have hr' : (r < 1) = True := by simp [hr]
      refine ⟨-1, by omega, by omega, fun d => ⟨fun h => by omega, fun h => by
        obtain ⟨c, h1, _, h3, h4, _⟩ := (hE d).1 h
        have := (hr2 c).2 ⟨h1, h3⟩
        omega⟩, fun w hW => ?_⟩
      have HC := Lib.hid (hr3 w hW)
      have d := hW.cell i _ hx
      have d0 : w.cell? ⟨b, o + i * 10, none⟩ = some (.int .i64 kd) := d 0 _ rfl
      have d6 : w.cell? ⟨b, o + i * 10 + 6, none⟩ = some (.int .i64 xb) := d 6 _ rfl
      clear d hx hE ih hr2 hr3 hb
      rcases hk with rfl | rfl
      · go_enter Tryz.func83, Tryz.ntmps83
        go_wp2_with fail
        refine HC.out.mono ?_
        rintro e w1 ⟨rfl, hB⟩
        go_wp2
        go_ret
        exact ⟨rfl, hB⟩
      · go_enter Tryz.func83, Tryz.ntmps83
        go_wp2_with fail
        refine HC.out.mono ?_
        rintro e w1 ⟨rfl, hB⟩
        go_wp2
        go_ret
        exact ⟨rfl, hB⟩
    · have hr' : (r < 1) = False := by simp; omega
      obtain ⟨c, rfl⟩ : ∃ c : Nat, r = c := ⟨r.toNat, by omega⟩
      obtain ⟨h1i, hEc⟩ := (hr2 c).1 rfl
      by_cases ha : xa = (c : Int) - 1
      · have ha1 : (xa == (c : Int) - 1) = true := by simp [ha]
        obtain ⟨r2, k1, k2, k3, k4⟩ := ih (c - 1) (by omega)
        refine ⟨r2, k1, by omega, fun d => ?_, fun w hW => ?_⟩
        · rw [hE d, k3 d]
          constructor
          · exact fun h => ⟨c, h1i, hb, hEc, by omega, ha, h⟩
          · rintro ⟨c', _, _, h3, h4, _, h6⟩
            rw [hEc.uniq h3]; exact h6
        · have HC := Lib.hid (hr3 w hW)
          have HD := Lib.hid fun w hW => k4 w hW
          have d := hW.cell i _ hx
          have d0 : w.cell? ⟨b, o + i * 10, none⟩ = some (.int .i64 kd) := d 0 _ rfl
          have d6 : w.cell? ⟨b, o + i * 10 + 6, none⟩ = some (.int .i64 xb) := d 6 _ rfl
          have D := Lib.hid fun w' (hB : Below w.heap.size w w') => (show w'.cell? ⟨b, o + i * 10 + 5, none⟩ = some (.int .i64 xa) from (hW.below hB hW.lt).cell i _ hx 5 _ rfl)
          have ec : ((c - 1 : Nat) : Int) = (c : Int) - 1 := by omega
          rw [ec] at HD
          clear d hE ih hr2 hr3 hb k3 k4 ha hEc ec
          rcases hk with rfl | rfl
          · go_enter Tryz.func83, Tryz.ntmps83
            go_wp2_with fail
            refine HC.out.mono ?_
            rintro e w1 ⟨rfl, hB⟩
            have d5 := D.out w1 hB
            have hW1 := hW.below hB hW.lt
            clear hx
            go_wp2_with fail
            refine (HD.out w1 hW1).mono ?_
            rintro e w2 ⟨rfl, hB2⟩
            go_wp2
            go_ret
            exact ⟨rfl, hB.trans (hB2.mono hB.size)⟩
          · go_enter Tryz.func83, Tryz.ntmps83
            go_wp2_with fail
            refine HC.out.mono ?_
            rintro e w1 ⟨rfl, hB⟩
            have d5 := D.out w1 hB
            have hW1 := hW.below hB hW.lt
            clear hx
            go_wp2_with fail
            refine (HD.out w1 hW1).mono ?_
            rintro e w2 ⟨rfl, hB2⟩
            go_wp2
            go_ret
            exact ⟨rfl, hB.trans (hB2.mono hB.size)⟩
      · have ha1 : (xa == (c : Int) - 1) = false := by rw [beq_eq_false_iff_ne]; exact ha
        refine ⟨-1, by omega, by omega, fun d => ⟨fun h => by omega, fun h => by
          obtain ⟨c', h1, _, h3, h4, h5, _⟩ := (hE d).1 h
          have := hEc.uniq h3
          subst this
          exact absurd h5 ha⟩, fun w hW => ?_⟩
        have HC := Lib.hid (hr3 w hW)
        have d := hW.cell i _ hx
        have d0 : w.cell? ⟨b, o + i * 10, none⟩ = some (.int .i64 kd) := d 0 _ rfl
        have d6 : w.cell? ⟨b, o + i * 10 + 6, none⟩ = some (.int .i64 xb) := d 6 _ rfl
        have D := Lib.hid fun w' (hB : Below w.heap.size w w') => (show w'.cell? ⟨b, o + i * 10 + 5, none⟩ = some (.int .i64 xa) from (hW.below hB hW.lt).cell i _ hx 5 _ rfl)
        clear d hE ih hr2 hr3 hb ha hEc
        rcases hk with rfl | rfl
        · go_enter Tryz.func83, Tryz.ntmps83
          go_wp2_with fail
          refine HC.out.mono ?_
          rintro e w1 ⟨rfl, hB⟩
          have d5 := D.out w1 hB
          clear hx
          go_wp2
          go_ret
          exact ⟨rfl, hB⟩
        · go_enter Tryz.func83, Tryz.ntmps83
          go_wp2_with fail
          refine HC.out.mono ?_
          rintro e w1 ⟨rfl, hB⟩
          have d5 := D.out w1 hB
          clear hx
          go_wp2
          go_ret
          exact ⟨rfl, hB⟩
  · refine ⟨-1, by omega, by omega, fun d => ⟨fun h => by omega, fun h => by
      obtain ⟨c', _, h2, _⟩ := (hE d).1 h
      exact absurd h2 hb⟩, fun w hW => ?_⟩
    have hb1 : (xb == (i : Int) - 1) = false := by rw [beq_eq_false_iff_ne]; exact hb
    have d := hW.cell i _ hx
    have d0 : w.cell? ⟨b, o + i * 10, none⟩ = some (.int .i64 kd) := d 0 _ rfl
    have d6 : w.cell? ⟨b, o + i * 10 + 6, none⟩ = some (.int .i64 xb) := d 6 _ rfl
    clear d hx hE ih hb
    rcases hk with rfl | rfl
    · go_enter Tryz.func83, Tryz.ntmps83
      go_wp2
      go_ret
      exact ⟨rfl, Below.refl _ _⟩
    · go_enter Tryz.func83, Tryz.ntmps83
      go_wp2
      go_ret
      exact ⟨rfl, Below.refl _ _⟩

theorem first_c (hnd : ∀ (i : Nat) (x : Nd), xs[i]? = some x → isNd x = true) : ∀ i : Nat, i < n → ∃ r, FirstAt b o n cap xs i r := by
  intro i
  induction i using Nat.strongRecOn with
  | _ i ih =>
    intro hi
    have ih' : ∀ j, j < i → ∃ r, FirstAt b o n cap xs j r := fun j hj => ih j hj (by omega)
    obtain ⟨x, hx⟩ : ∃ x, xs[i]? = some x := ⟨xs[i]'(by omega), List.getElem?_eq_getElem (by omega)⟩
    have hd := hnd i x hx
    have hk := isNd_kind hd
    obtain ⟨kd, w0, w1, w2, w3, xa, xb, m, M, xn⟩ := x
    simp only at hk
    by_cases h4 : kd = 4 ∨ kd = 5
    · exact first_two b o n cap xs hlen hn kd h4 i hi w0 w1 w2 w3 xa xb m M xn hx (fun d => T.ends_two (l := fun i => xs[i]?) hx hd h4) ih'
    by_cases h6 : kd = 6
    · exact first_one b o n cap xs hlen hn kd (.inl h6) i hi w0 w1 w2 w3 xa xb m M xn hx (fun d => T.ends_times (l := fun i => xs[i]?) hx hd h6) ih'
    by_cases h7 : kd = 7
    · exact first_one b o n cap xs hlen hn kd (.inr h7) i hi w0 w1 w2 w3 xa xb m M xn hx (fun d => T.ends_group (l := fun i => xs[i]?) hx hd h7) ih'
    · exact ⟨i, first_leaf b o n cap xs i hi kd w0 w1 w2 w3 xa xb m M xn hx hd (by omega)⟩
end

end Go.Proofs.YthbldjiibgnfmaaGreatDoor
