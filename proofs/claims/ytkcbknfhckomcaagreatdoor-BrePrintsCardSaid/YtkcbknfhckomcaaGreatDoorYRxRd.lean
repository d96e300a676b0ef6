/- The reference's hex, natural, Digits. -/
import Derived.Test.YtkcbknfhckomcaaGreatDoorYRxU
import Derived.Test.YtkcbknfhckomcaaGreatDoorYSetH
import Derived.BigQuiet
import Derived.Deep.RegionHeld3
import Derived.Laws.DeepStrings4
import Derived.Deep.AppendLies
import Derived.Test.YtkcbknfhckomcaaGreatDoorYRxSm
set_option linter.unusedVariables false
set_option linter.unusedSimpArgs false
set_option maxRecDepth 100000
set_option maxHeartbeats 40000000
namespace Go.Proofs.YtkcbknfhckomcaaGreatDoor
open Go.RowKit Go.Lib
theorem cut10 : ∀ q, q < 10 → ((⟨#[48, 49, 50, 51, 52, 53, 54, 55, 56, 57]⟩ : ByteArray).extract q (q + 1)).data.toList = [UInt8.ofNat (48 + q)] := by decide +kernel
theorem slice10 (q : Nat) (h : q < 10) (w : World) : (Instr.slice 9 (.string ⟨#[48, 49, 50, 51, 52, 53, 54, 55, 56, 57]⟩) (some (.int .u64 (q : Int))) (some (.int .u64 ((q : Int) + 1))) none).run Tryz.prog w = .ok (.string ⟨#[UInt8.ofNat (48 + q)]⟩) w := by
 have hs : (⟨#[48, 49, 50, 51, 52, 53, 54, 55, 56, 57]⟩ : ByteArray).size = 10 := rfl
 rw [run_slice_string_if (P := Tryz.prog) w 9 _ .u64 .u64 (q : Int) ((q : Int) + 1) Tryz.underlying9, if_pos ⟨by omega, by rw [hs]; omega⟩, if_pos ⟨by omega, by omega⟩]
 rw [show ((q : Int) + 1).toNat = q + 1 by omega, show ((q : Int)).toNat = q by omega]
 have : (⟨#[48, 49, 50, 51, 52, 53, 54, 55, 56, 57]⟩ : ByteArray).extract q (q + 1) = ⟨#[UInt8.ofNat (48 + q)]⟩ := by
  apply ByteArray.ext
  apply Array.ext'
  exact cut10 q h
 rw [this]
theorem dec_len (n : Nat) : (decDigits n).length ≤ n + 1 := by
 induction n using Nat.strongRecOn with
 | _ n ih =>
  by_cases h : n < 10
  ·rw [decDigits_one h]; simp
  ·rw [decDigits, dif_neg (by omega), List.length_append]
   have := ih (n / 10) (by omega)
   simp only [List.length_cons, List.length_nil]
   omega
theorem app2 (a b : List UInt8) : (⟨a.toArray⟩ : ByteArray) ++ ⟨b.toArray⟩ = ⟨(a ++ b).toArray⟩ := by
 apply ByteArray.ext
 apply Array.ext'
 simp
theorem natural_1 (n : Nat) (h : n < 10) (w : World) :
  Calls Tryz.prog 52 #[.int .u64 (n : Int)] w fun e w' => e = .returned (.string ⟨(decDigits n).toArray⟩) ∧ Below w.heap.size w w' := by
 have x1 := fun w => slice10 n h w
 have hd := decDigits_one h
 obtain ⟨c, hc⟩ : ∃ c, c = UInt8.ofNat (48 + n) := ⟨_, rfl⟩
 rw [← hc] at x1 hd
 rw [hd]
 clear hd hc
 have hw : IntKind.u64.wrap ((n : Int) + 1) = (n : Int) + 1 := by simp [IntKind.wrap, IntKind.signed, IntKind.bits]; omega
 have h1 : ((n : Int) < 10) = True := by simp; omega
 go_enter Tryz.func52, Tryz.ntmps52
 go_wp2
 go_ret
 exact ⟨rfl, Below.refl _ _⟩
theorem dec_split (n : Nat) (h : 10 ≤ n) : decDigits n = decDigits (n / 10) ++ [UInt8.ofNat (48 + n % 10)] := by
 rw [decDigits, dif_neg (by omega)]
theorem natural_2 (n : Nat) (h : 10 ≤ n) (hn : n < 1000000) (ih : ∀ w, Calls Tryz.prog 52 #[.int .u64 ((n / 10 : Nat) : Int)] w fun e w' => e = .returned (.string ⟨(decDigits (n / 10)).toArray⟩) ∧ Below w.heap.size w w') (w : World) :
  Calls Tryz.prog 52 #[.int .u64 (n : Int)] w fun e w' => e = .returned (.string ⟨(decDigits n).toArray⟩) ∧ Below w.heap.size w w' := by
 have h1 : ((n : Int) < 10) = False := by simp; omega
 have hds := dec_split n h
 obtain ⟨q, hq⟩ : ∃ q, q = n / 10 := ⟨_, rfl⟩
 obtain ⟨r, hr⟩ : ∃ r, r = n % 10 := ⟨_, rfl⟩
 rw [← hq, ← hr] at hds
 obtain ⟨c, hc⟩ : ∃ c, c = UInt8.ofNat (48 + r) := ⟨_, rfl⟩
 rw [← hc] at hds
 rw [← hq] at ih
 have r10 : r < 10 := by omega
 have x1 := fun w => slice10 r r10 w
 rw [← hc] at x1
 have e1 : (n : Int) / 10 = (q : Int) := by omega
 have e2 : (n : Int) % 10 = (r : Int) := by omega
 have e1' : (n : Int).tdiv 10 = (q : Int) := by rw [Int.tdiv_eq_ediv_of_nonneg (by omega)]; omega
 have e2' : (n : Int).tmod 10 = (r : Int) := by rw [Int.tmod_eq_emod_of_nonneg (by omega)]; omega
 have hw : IntKind.u64.wrap ((r : Int) + 1) = (r : Int) + 1 := by simp [IntKind.wrap, IntKind.signed, IntKind.bits]; omega
 have hw2 : IntKind.u64.wrap (q : Int) = (q : Int) := by simp [IntKind.wrap, IntKind.signed, IntKind.bits]; omega
 have hw3 : IntKind.u64.wrap (r : Int) = (r : Int) := by simp [IntKind.wrap, IntKind.signed, IntKind.bits]; omega
 have hL := dec_len q
 have hL1 : (9223372036854775807 < (decDigits q).length + 1) = False := by simp; omega
 have IH := Lib.hid ih
 have HD := Lib.hid hds
 clear ih hds hq hr hc
 go_enter Tryz.func52, Tryz.ntmps52
 go_wp2_with fail
 refine wp_region_noPanic ?_
 refine wp_region_held_drew (S := fun w' => Below w.heap.size w w') (by kernel_rfl) ?_ (fun hHeld => ?_)
 ·(try dsimp only); exact (Below.refl _ w).drew
 refine wpAnyH_take (i := 0) (v := ?_) rfl (by kernel_rfl) (by kernel_rfl) (by kernel_rfl) (fun _ _ _ h => h) (Or.inl ⟨by kernel_rfl, ?_⟩) (by assumption) ?_
 rotate_left
 ·(intro w hSw; (try dsimp only at hSw); go_simp); (try with_reducible rfl)
 try simp only [Act.put, laS]
 refine wpAnyH_take (i := 1) (v := ?_) rfl (by kernel_rfl) (by kernel_rfl) (by kernel_rfl) (fun _ _ _ h => h) (Or.inl ⟨by kernel_rfl, ?_⟩) (by assumption) ?_
 rotate_left
 ·(intro w hSw; (try dsimp only at hSw); go_simp); (try with_reducible rfl)
 try simp only [Act.put, laS]
 refine wpAnyH_take (i := 3) (v := ?_) rfl (by kernel_rfl) (by kernel_rfl) (by kernel_rfl) (fun _ _ _ h => h) (Or.inl ⟨by kernel_rfl, ?_⟩) (by assumption) ?_
 rotate_left
 ·(intro w hSw; (try dsimp only at hSw); go_simp); (try with_reducible rfl)
 try simp only [Act.put, laS]
 refine wpAnyH_take (i := 4) (v := ?_) rfl (by kernel_rfl) (by kernel_rfl) (by kernel_rfl) (fun _ _ _ h => h) (Or.inl ⟨by kernel_rfl, ?_⟩) (by assumption) ?_
 rotate_left
 ·(intro w hSw; (try dsimp only at hSw); go_simp); (try with_reducible rfl)
 try simp only [Act.put, laS]
 refine wpAnyH_take (i := 5) (v := ?_) rfl (by kernel_rfl) (by kernel_rfl) (by kernel_rfl) (fun _ _ _ h => h) (Or.inl ⟨by kernel_rfl, ?_⟩) (by assumption) ?_
 rotate_left
 ·(intro w hSw; (try dsimp only at hSw); go_simp); (try with_reducible rfl)
 try simp only [Act.put, laS]
 refine wpAnyH_take (i := 6) (v := ?_) rfl (by kernel_rfl) (by kernel_rfl) (by kernel_rfl) (fun _ _ _ h => h) (Or.inl ⟨by kernel_rfl, ?_⟩) (by assumption) ?_
 rotate_left
 ·(intro w hSw; (try dsimp only at hSw); go_simp); (try with_reducible rfl)
 try simp only [Act.put, laS]
 refine wpAnyH_take (i := 7) (v := ?_) rfl (by kernel_rfl) (by kernel_rfl) (by kernel_rfl) (fun _ _ _ h => h) (Or.inl ⟨by kernel_rfl, ?_⟩) (by assumption) ?_
 rotate_left
 ·(intro w hSw; (try dsimp only at hSw); go_simp); (try with_reducible rfl)
 try simp only [Act.put, laS]
 refine wpAnyH_take (i := 8) (v := ?_) rfl (by kernel_rfl) (by kernel_rfl) (by kernel_rfl) (fun _ _ _ h => h) (Or.inl ⟨by kernel_rfl, ?_⟩) (by assumption) ?_
 rotate_left
 ·(intro w hSw; (try dsimp only at hSw); go_simp); (try with_reducible rfl)
 try simp only [Act.put, laS]
 refine wpAnyH_ready (rs := [2]) (by kernel_rfl) (by simp) ?_
 refine AllReadyH.cons rfl (fun K hK => ?_) ?_
 rotate_left
 ·exact AllReadyH.nil
 go_simp
 refine (IH.out _).mono ?_
 rintro e w1 ⟨rfl, hB⟩
 have hB1 : Below w.heap.size w w1 := (Below.refl _ w).drew.trans hB
 refine hK.out _ _ ?_ (fun hHeld => ?_)
 ·(try dsimp only); exact hB1
 clear hK K
 try simp only [Act.put, laS]
 refine wpAnyH_take (i := 9) (v := ?_) rfl (by kernel_rfl) (by kernel_rfl) (by kernel_rfl) (fun _ _ _ h => h) (Or.inl ⟨by kernel_rfl, ?_⟩) (by assumption) ?_
 rotate_left
 ·(intro w hSw; (try dsimp only at hSw); go_simp); (try with_reducible rfl)
 try simp only [Act.put, laS]
 refine wpAnyH_take (i := 10) (v := ?_) rfl (by kernel_rfl) (by kernel_rfl) (by kernel_rfl) (fun _ _ _ h => h) (Or.inl ⟨by kernel_rfl, ?_⟩) (by assumption) ?_
 rotate_left
 ·(intro w hSw; (try dsimp only at hSw); go_simp); (try with_reducible rfl)
 try simp only [Act.put, laS]
 refine wpAnyH_done (by kernel_rfl) ?_ _
 refine NoPanic.normal ?_
 go_wp2
 go_ret
 refine ⟨?_, hB1⟩
 rw [HD.out]
 have := app2 (decDigits q) [c]
 simpa using this
theorem natural_c : ∀ (n : Nat), n < 1000000 → ∀ w, Calls Tryz.prog 52 #[.int .u64 (n : Int)] w fun e w' => e = .returned (.string ⟨(decDigits n).toArray⟩) ∧ Below w.heap.size w w' := by
 intro n
 induction n using Nat.strongRecOn with
 | _ n ih =>
  intro hn w
  by_cases h : n < 10
  ·exact natural_1 n h w
  ·exact natural_2 n (by omega) hn (ih (n / 10) (by omega) (by omega)) w
theorem digits_c (n : Int) (h0 : -1 ≤ n) (h1 : n < 1000) (w : World) :
  Calls Tryz.prog 32 #[.int .i64 n] w fun e w' => e = .returned (.string ⟨(itoa n).toArray⟩) ∧ Below w.heap.size w w' := by
 by_cases hn : n = -1
 ·subst hn
  have e : itoa (-1) = [45, 49] := by
   unfold itoa
   rw [if_pos (by omega)]
   show 45 :: decDigits 1 = _
   rw [decDigits_one (by omega)]
   rfl
  have hd : decDigits 1 = [49] := decDigits_one (by omega)
  have HN := natural_c 1 (by omega)
  rw [hd] at HN
  have HN1 := Lib.hid HN
  rw [e]
  clear e hd HN
  go_enter Tryz.func32, Tryz.ntmps32
  go_wp2_with fail
  refine (HN1.out _).mono ?_
  rintro e w1 ⟨rfl, hB⟩
  go_wp2
  go_ret
  exact ⟨rfl, hB⟩
 ·obtain ⟨k, rfl⟩ : ∃ k : Nat, n = k := ⟨n.toNat, by omega⟩
  have e : itoa (k : Int) = decDigits k := by unfold itoa; rw [if_neg (by omega)]; simp
  have HN := Lib.hid (natural_c k (by omega))
  have hk : ((k : Int) < 0) = False := by simp
  have hL := dec_len k
  have hw : IntKind.u64.wrap (k : Int) = (k : Int) := by simp [IntKind.wrap, IntKind.signed, IntKind.bits]; omega
  rw [e]
  clear e hn
  go_enter Tryz.func32, Tryz.ntmps32
  go_wp2_with fail
  refine (HN.out _).mono ?_
  rintro e w1 ⟨rfl, hB⟩
  go_wp2
  go_ret
  exact ⟨rfl, hB⟩
end Go.Proofs.YtkcbknfhckomcaaGreatDoor
namespace Go.Proofs.YtkcbknfhckomcaaGreatDoor
open Go.RowKit
theorem first_neg (p : Option Addr) (n cap : Nat) (w : World) :
  Calls Tryz.prog 49 #[.slice p n cap, .int .i64 (-1)] w fun e w' => e = .returned (.int .i64 (-1)) ∧ Below w.heap.size w w' := by
 go_enter Tryz.func49, Tryz.ntmps49
 go_wp2
 go_ret
 exact ⟨rfl, Below.refl _ _⟩
def FirstAt (b o n cap : Nat) (xs : List Nd) (i : Nat) (r : Int) : Prop :=
 -1 ≤ r ∧ r ≤ i ∧ (∀ c : Nat, r = c ↔ T.Ends (fun i => xs[i]?) c i) ∧ ∀ w, NodesAt w b o xs →
  Calls Tryz.prog 49 #[.slice (some ⟨b, o, none⟩) n cap, .int .i64 (i : Int)] w fun e w' => e = .returned (.int .i64 r) ∧ Below w.heap.size w w'
section
variable (b o n cap : Nat) (xs : List Nd) (i : Nat) (hi : i < n) (kd : Int) (w0 w1 w2 w3 : Nat) (xa xb m M xn : Int) (hx : xs[i]? = some ⟨kd, w0, w1, w2, w3, xa, xb, m, M, xn⟩) (hnd : isNd ⟨kd, w0, w1, w2, w3, xa, xb, m, M, xn⟩ = true)
include hi hx hnd
theorem first_leaf (hk : kd = 0 ∨ kd = 1 ∨ kd = 2 ∨ kd = 3 ∨ kd = 8) : FirstAt b o n cap xs i i := by
 have he := T.ends_leaf (l := fun i => xs[i]?) hx hnd hk
 have hu : ∀ c : Nat, ((i : Int) = c ↔ T.Ends (fun i => xs[i]?) c i) := fun c => by
  constructor
  ·intro h
   obtain rfl : c = i := by omega
   exact he
  ·intro h
   rw [h.uniq he]
 refine ⟨by omega, by omega, hu, fun w hw => ?_⟩
 clear hu
 have d := hw.cell i _ hx
 have d0 : w.cell? ⟨b, o + i * 10, none⟩ = some (.int .i64 kd) := d 0 _ rfl
 have n4 : (kd == 4) = false := by rw [beq_eq_false_iff_ne]; omega
 have n5 : (kd == 5) = false := by rw [beq_eq_false_iff_ne]; omega
 have n6 : (kd == 6) = false := by rw [beq_eq_false_iff_ne]; omega
 have n7 : (kd == 7) = false := by rw [beq_eq_false_iff_ne]; omega
 have hi1 : (i : Int) < n := by omega
 have hi0 : ((i : Int) < 0) = False := by simp
 clear d he hx hnd hk
 go_enter Tryz.func49, Tryz.ntmps49
 go_wp2
 go_ret
 exact ⟨rfl, Below.refl _ _⟩
end
section
variable (b o n cap : Nat) (xs : List Nd) (hlen : xs.length = n) (hn : n ≤ 1000)
include hlen hn
theorem first_one (kd : Int) (hk : kd = 6 ∨ kd = 7) (i : Nat) (hi : i < n) (w0 w1 w2 w3 : Nat) (xa xb m M xn : Int) (hx : xs[i]? = some ⟨kd, w0, w1, w2, w3, xa, xb, m, M, xn⟩)
  (hE : ∀ c : Nat, T.Ends (fun i => xs[i]?) c i ↔ 1 ≤ i ∧ xa = (i : Int) - 1 ∧ T.Ends (fun i => xs[i]?) c (i - 1)) (ih : ∀ j, j < i → ∃ r, FirstAt b o n cap xs j r) : ∃ r, FirstAt b o n cap xs i r := by
 have hi1 : (i : Int) < n := by omega
 have hi0 : ((i : Int) < 0) = False := by simp
 have hw : IntKind.i64.wrap ((i : Int) - 1) = (i : Int) - 1 := by simp [IntKind.wrap, IntKind.signed, IntKind.bits]; omega
 have n4 : (kd == 4) = false := by rw [beq_eq_false_iff_ne]; omega
 have n5 : (kd == 5) = false := by rw [beq_eq_false_iff_ne]; omega
 by_cases ha : xa = (i : Int) - 1
 ·have ha1 : (xa == (i : Int) - 1) = true := by simp [ha]
  obtain ⟨r, hr0, hr1, hr2, hr3⟩ : ∃ r : Int, -1 ≤ r ∧ r ≤ i ∧ (∀ c : Nat, r = c ↔ T.Ends (fun i => xs[i]?) c i) ∧ ∀ w, NodesAt w b o xs → Calls Tryz.prog 49 #[.slice (some ⟨b, o, none⟩) n cap, .int .i64 ((i : Int) - 1)] w fun e w' => e = .returned (.int .i64 r) ∧ Below w.heap.size w w' := by
   by_cases h0 : i = 0
   ·subst h0
    refine ⟨-1, by omega, by omega, fun c => ⟨fun h => by omega, fun h => by have := (hE c).1 h; omega⟩, fun w hw => ?_⟩
    exact first_neg _ _ _ w
   ·obtain ⟨j, rfl⟩ : ∃ j, i = j + 1 := ⟨i - 1, by omega⟩
    obtain ⟨r, h1, h2, h3, h4⟩ := ih j (by omega)
    refine ⟨r, h1, by omega, fun c => ?_, fun w hw => ?_⟩
    ·rw [hE c, h3 c]
     constructor
     ·exact fun h => ⟨by omega, ha, h⟩
     ·exact fun h => h.2.2
    ·have := h4 w hw
     rw [show ((j + 1 : Nat) : Int) - 1 = j by omega]
     exact this
  refine ⟨r, hr0, hr1, hr2, fun w hW => ?_⟩
  have HC := Lib.hid (hr3 w hW)
  have d := hW.cell i _ hx
  have d0 : w.cell? ⟨b, o + i * 10, none⟩ = some (.int .i64 kd) := d 0 _ rfl
  have d5 : w.cell? ⟨b, o + i * 10 + 5, none⟩ = some (.int .i64 xa) := d 5 _ rfl
  clear d hx hE ih hr2 hr3 hr0 hr1 ha
  rcases hk with rfl | rfl
  ·go_enter Tryz.func49, Tryz.ntmps49
   go_wp2_with fail
   refine HC.out.mono ?_
   rintro e w1 ⟨rfl, hB⟩
   go_wp2
   go_ret
   exact ⟨rfl, hB⟩
  ·go_enter Tryz.func49, Tryz.ntmps49
   go_wp2_with fail
   refine HC.out.mono ?_
   rintro e w1 ⟨rfl, hB⟩
   go_wp2
   go_ret
   exact ⟨rfl, hB⟩
 ·refine ⟨-1, by omega, by omega, fun c => ⟨fun h => by omega, fun h => absurd ((hE c).1 h).2.1 ha⟩, fun w hW => ?_⟩
  have ha1 : (xa == (i : Int) - 1) = false := by rw [beq_eq_false_iff_ne]; exact ha
  have d := hW.cell i _ hx
  have d0 : w.cell? ⟨b, o + i * 10, none⟩ = some (.int .i64 kd) := d 0 _ rfl
  have d5 : w.cell? ⟨b, o + i * 10 + 5, none⟩ = some (.int .i64 xa) := d 5 _ rfl
  clear d hx hE ih ha
  rcases hk with rfl | rfl
  ·go_enter Tryz.func49, Tryz.ntmps49
   go_wp2
   go_ret
   exact ⟨rfl, Below.refl _ _⟩
  ·go_enter Tryz.func49, Tryz.ntmps49
   go_wp2
   go_ret
   exact ⟨rfl, Below.refl _ _⟩
theorem first_two (kd : Int) (hk : kd = 4 ∨ kd = 5) (i : Nat) (hi : i < n) (w0 w1 w2 w3 : Nat) (xa xb m M xn : Int) (hx : xs[i]? = some ⟨kd, w0, w1, w2, w3, xa, xb, m, M, xn⟩)
  (hE : ∀ d : Nat, T.Ends (fun i => xs[i]?) d i ↔ ∃ c, 1 ≤ i ∧ xb = (i : Int) - 1 ∧ T.Ends (fun i => xs[i]?) c (i - 1) ∧ 1 ≤ c ∧ xa = (c : Int) - 1 ∧ T.Ends (fun i => xs[i]?) d (c - 1)) (ih : ∀ j, j < i → ∃ r, FirstAt b o n cap xs j r) : ∃ r, FirstAt b o n cap xs i r := by
 have hi1 : (i : Int) < n := by omega
 have hi0 : ((i : Int) < 0) = False := by simp
 have hw : IntKind.i64.wrap ((i : Int) - 1) = (i : Int) - 1 := by simp [IntKind.wrap, IntKind.signed, IntKind.bits]; omega
 by_cases hb : xb = (i : Int) - 1
 ·have hb1 : (xb == (i : Int) - 1) = true := by simp [hb]
  obtain ⟨r, hr0, hr1, hr2, hr3⟩ : ∃ r : Int, -1 ≤ r ∧ (r ≤ (i : Int) - 1) ∧ (∀ c : Nat, r = c ↔ 1 ≤ i ∧ T.Ends (fun i => xs[i]?) c (i - 1)) ∧ ∀ w, NodesAt w b o xs → Calls Tryz.prog 49 #[.slice (some ⟨b, o, none⟩) n cap, .int .i64 ((i : Int) - 1)] w fun e w' => e = .returned (.int .i64 r) ∧ Below w.heap.size w w' := by
   by_cases h0 : i = 0
   ·subst h0
    refine ⟨-1, by omega, by omega, fun c => ⟨fun h => by omega, fun h => by omega⟩, fun w hw => ?_⟩
    exact first_neg _ _ _ w
   ·obtain ⟨j, rfl⟩ : ∃ j, i = j + 1 := ⟨i - 1, by omega⟩
    obtain ⟨r, h1, h2, h3, h4⟩ := ih j (by omega)
    refine ⟨r, h1, by omega, fun c => ?_, fun w hw => ?_⟩
    ·rw [h3 c]
     constructor
     ·exact fun h => ⟨by omega, h⟩
     ·exact fun h => h.2
    ·have := h4 w hw
     rw [show ((j + 1 : Nat) : Int) - 1 = j by omega]
     exact this
  have hwr : IntKind.i64.wrap (r - 1) = r - 1 := by simp [IntKind.wrap, IntKind.signed, IntKind.bits]; omega
  by_cases hr : r < 1
  ·have hr' : (r < 1) = True := by simp [hr]
   refine ⟨-1, by omega, by omega, fun d => ⟨fun h => by omega, fun h => by
    obtain ⟨c, h1, _, h3, h4, _⟩ := (hE d).1 h
    have := (hr2 c).2 ⟨h1, h3⟩
    omega⟩, fun w hW => ?_⟩
   have HC := Lib.hid (hr3 w hW)
   have d := hW.cell i _ hx
   have d0 : w.cell? ⟨b, o + i * 10, none⟩ = some (.int .i64 kd) := d 0 _ rfl
   have d6 : w.cell? ⟨b, o + i * 10 + 6, none⟩ = some (.int .i64 xb) := d 6 _ rfl
   clear d hx hE ih hr2 hr3 hb
   rcases hk with rfl | rfl
   ·go_enter Tryz.func49, Tryz.ntmps49
    go_wp2_with fail
    refine HC.out.mono ?_
    rintro e w1 ⟨rfl, hB⟩
    go_wp2
    go_ret
    exact ⟨rfl, hB⟩
   ·go_enter Tryz.func49, Tryz.ntmps49
    go_wp2_with fail
    refine HC.out.mono ?_
    rintro e w1 ⟨rfl, hB⟩
    go_wp2
    go_ret
    exact ⟨rfl, hB⟩
  ·have hr' : (r < 1) = False := by simp; omega
   obtain ⟨c, rfl⟩ : ∃ c : Nat, r = c := ⟨r.toNat, by omega⟩
   obtain ⟨h1i, hEc⟩ := (hr2 c).1 rfl
   by_cases ha : xa = (c : Int) - 1
   ·have ha1 : (xa == (c : Int) - 1) = true := by simp [ha]
    obtain ⟨r2, k1, k2, k3, k4⟩ := ih (c - 1) (by omega)
    refine ⟨r2, k1, by omega, fun d => ?_, fun w hW => ?_⟩
    ·rw [hE d, k3 d]
     constructor
     ·exact fun h => ⟨c, h1i, hb, hEc, by omega, ha, h⟩
     ·rintro ⟨c', _, _, h3, h4, _, h6⟩
      rw [hEc.uniq h3]; exact h6
    ·have HC := Lib.hid (hr3 w hW)
     have HD := Lib.hid fun w hW => k4 w hW
     have d := hW.cell i _ hx
     have d0 : w.cell? ⟨b, o + i * 10, none⟩ = some (.int .i64 kd) := d 0 _ rfl
     have d6 : w.cell? ⟨b, o + i * 10 + 6, none⟩ = some (.int .i64 xb) := d 6 _ rfl
     have D := Lib.hid fun w' (hB : Below w.heap.size w w') => (show w'.cell? ⟨b, o + i * 10 + 5, none⟩ = some (.int .i64 xa) from (hW.below hB hW.lt).cell i _ hx 5 _ rfl)
     have ec : ((c - 1 : Nat) : Int) = (c : Int) - 1 := by omega
     rw [ec] at HD
     clear d hE ih hr2 hr3 hb k3 k4 ha hEc ec
     rcases hk with rfl | rfl
     ·go_enter Tryz.func49, Tryz.ntmps49
      go_wp2_with fail
      refine HC.out.mono ?_
      rintro e w1 ⟨rfl, hB⟩
      have d5 := D.out w1 hB
      have hW1 := hW.below hB hW.lt
      clear hx
      go_wp2_with fail
      refine (HD.out w1 hW1).mono ?_
      rintro e w2 ⟨rfl, hB2⟩
      go_wp2
      go_ret
      exact ⟨rfl, hB.trans (hB2.mono hB.size)⟩
     ·go_enter Tryz.func49, Tryz.ntmps49
      go_wp2_with fail
      refine HC.out.mono ?_
      rintro e w1 ⟨rfl, hB⟩
      have d5 := D.out w1 hB
      have hW1 := hW.below hB hW.lt
      clear hx
      go_wp2_with fail
      refine (HD.out w1 hW1).mono ?_
      rintro e w2 ⟨rfl, hB2⟩
      go_wp2
      go_ret
      exact ⟨rfl, hB.trans (hB2.mono hB.size)⟩
   ·have ha1 : (xa == (c : Int) - 1) = false := by rw [beq_eq_false_iff_ne]; exact ha
    refine ⟨-1, by omega, by omega, fun d => ⟨fun h => by omega, fun h => by
     obtain ⟨c', h1, _, h3, h4, h5, _⟩ := (hE d).1 h
     have := hEc.uniq h3
     subst this
     exact absurd h5 ha⟩, fun w hW => ?_⟩
    have HC := Lib.hid (hr3 w hW)
    have d := hW.cell i _ hx
    have d0 : w.cell? ⟨b, o + i * 10, none⟩ = some (.int .i64 kd) := d 0 _ rfl
    have d6 : w.cell? ⟨b, o + i * 10 + 6, none⟩ = some (.int .i64 xb) := d 6 _ rfl
    have D := Lib.hid fun w' (hB : Below w.heap.size w w') => (show w'.cell? ⟨b, o + i * 10 + 5, none⟩ = some (.int .i64 xa) from (hW.below hB hW.lt).cell i _ hx 5 _ rfl)
    clear d hE ih hr2 hr3 hb ha hEc
    rcases hk with rfl | rfl
    ·go_enter Tryz.func49, Tryz.ntmps49
     go_wp2_with fail
     refine HC.out.mono ?_
     rintro e w1 ⟨rfl, hB⟩
     have d5 := D.out w1 hB
     clear hx
     go_wp2
     go_ret
     exact ⟨rfl, hB⟩
    ·go_enter Tryz.func49, Tryz.ntmps49
     go_wp2_with fail
     refine HC.out.mono ?_
     rintro e w1 ⟨rfl, hB⟩
     have d5 := D.out w1 hB
     clear hx
     go_wp2
     go_ret
     exact ⟨rfl, hB⟩
 ·refine ⟨-1, by omega, by omega, fun d => ⟨fun h => by omega, fun h => by
   obtain ⟨c', _, h2, _⟩ := (hE d).1 h
   exact absurd h2 hb⟩, fun w hW => ?_⟩
  have hb1 : (xb == (i : Int) - 1) = false := by rw [beq_eq_false_iff_ne]; exact hb
  have d := hW.cell i _ hx
  have d0 : w.cell? ⟨b, o + i * 10, none⟩ = some (.int .i64 kd) := d 0 _ rfl
  have d6 : w.cell? ⟨b, o + i * 10 + 6, none⟩ = some (.int .i64 xb) := d 6 _ rfl
  clear d hx hE ih hb
  rcases hk with rfl | rfl
  ·go_enter Tryz.func49, Tryz.ntmps49
   go_wp2
   go_ret
   exact ⟨rfl, Below.refl _ _⟩
  ·go_enter Tryz.func49, Tryz.ntmps49
   go_wp2
   go_ret
   exact ⟨rfl, Below.refl _ _⟩
theorem first_c (hnd : ∀ (i : Nat) (x : Nd), xs[i]? = some x → isNd x = true) : ∀ i : Nat, i < n → ∃ r, FirstAt b o n cap xs i r := by
 intro i
 induction i using Nat.strongRecOn with
 | _ i ih =>
  intro hi
  have ih' : ∀ j, j < i → ∃ r, FirstAt b o n cap xs j r := fun j hj => ih j hj (by omega)
  obtain ⟨x, hx⟩ : ∃ x, xs[i]? = some x := ⟨xs[i]'(by omega), List.getElem?_eq_getElem (by omega)⟩
  have hd := hnd i x hx
  have hk := isNd_kind hd
  obtain ⟨kd, w0, w1, w2, w3, xa, xb, m, M, xn⟩ := x
  simp only at hk
  by_cases h4 : kd = 4 ∨ kd = 5
  ·exact first_two b o n cap xs hlen hn kd h4 i hi w0 w1 w2 w3 xa xb m M xn hx (fun d => T.ends_two (l := fun i => xs[i]?) hx hd h4) ih'
  by_cases h6 : kd = 6
  ·exact first_one b o n cap xs hlen hn kd (.inl h6) i hi w0 w1 w2 w3 xa xb m M xn hx (fun d => T.ends_times (l := fun i => xs[i]?) hx hd h6) ih'
  by_cases h7 : kd = 7
  ·exact first_one b o n cap xs hlen hn kd (.inr h7) i hi w0 w1 w2 w3 xa xb m M xn hx (fun d => T.ends_group (l := fun i => xs[i]?) hx hd h7) ih'
  ·exact ⟨i, first_leaf b o n cap xs i hi kd w0 w1 w2 w3 xa xb m M xn hx hd (by omega)⟩
end
end Go.Proofs.YtkcbknfhckomcaaGreatDoor
namespace Go.Proofs.YtkcbknfhckomcaaGreatDoor
open Go.RowKit Go.Lib
structure TxS (w : World) (b o : Nat) (xs : List Nd) (x : Nd) (w' : World) : Prop where
 nodes : NodesAt w' b o xs
 nb : w'.heap[w.heap.size]? = some (.cells x.cells 47 (0, 0))
 b : Below w.heap.size w w'
section
variable {w w1 w2 : World} {b o : Nat} {xs : List Nd} {x : Nd}
theorem TxS.step (h : TxS w b o xs x w1) (hB : Below w1.heap.size w1 w2) : TxS w b o xs x w2 :=
 ⟨h.nodes.below hB h.nodes.lt, (hB.block _ (Array.getElem?_eq_some_iff.1 h.nb).1).trans h.nb, h.b.trans (hB.mono h.b.size)⟩
theorem TxS.drew (h : TxS w b o xs x w1) : TxS w b o xs x w1.drew := h.step ((Below.refl _ _).drew)
theorem TxS.new (hx : NodesAt w b o xs) : TxS w b o xs x (w.alloc (.cells x.cells 47)) :=
 ⟨hx.alloc _, heap_new w _, (Below.refl _ w).alloc (Nat.le_refl _) _⟩
theorem TxS.cell (h : TxS w b o xs x w1) (j : Nat) : w1.cell? ⟨w.heap.size, j, none⟩ = x.cells[j]? := by rw [cell_of _ _ _ _ h.nb]
end
theorem itoa_m' : itoa (-1) = [45, 49] := by
 unfold itoa
 rw [if_pos (by omega)]
 show 45 :: Lib.decDigits 1 = _
 rw [Lib.decDigits_one (by omega)]
 rfl
end Go.Proofs.YtkcbknfhckomcaaGreatDoor
