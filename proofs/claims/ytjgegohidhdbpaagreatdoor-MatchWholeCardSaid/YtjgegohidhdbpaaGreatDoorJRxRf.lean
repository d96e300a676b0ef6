/- The reference's first. -/
import Derived.Test.YtjgegohidhdbpaaGreatDoorJRxIt
import Derived.Test.YtjgegohidhdbpaaGreatDoorJRxTj
import Derived.Deep.RegionHeld3
open Go.Proofs.Tryz
set_option linter.unusedVariables false
set_option linter.unusedSimpArgs false
set_option maxRecDepth 100000
set_option maxHeartbeats 40000000
namespace Go.Proofs.YtjgegohidhdbpaaGreatDoor
open Go.RowKit
theorem YJ (p : Option Addr) (n cap : Nat) (w : World) :
  Calls prog 128 #[.slice p n cap, .int .i64 (-1)] w fun e w' => e = .returned (.int .i64 (-1)) ∧ Below w.heap.size w w' := by
 go_enter func128, ntmps128
 go_wp2
 go_ret
 exact ⟨rfl, Below.refl _ _⟩
def Qf (b o n cap : Nat) (xs : List Nd) (i : Nat) (r : Int) : Prop :=
 -1 ≤ r ∧ r ≤ i ∧ (∀ c : Nat, r = c ↔ T.Ends (fun i => xs[i]?) c i) ∧ ∀ w, qn w b o xs →
  Calls prog 128 #[.slice (some ⟨b, o, none⟩) n cap, .int .i64 (i : Int)] w fun e w' => e = .returned (.int .i64 r) ∧ Below w.heap.size w w'
section
variable (b o n cap : Nat) (xs : List Nd) (i : Nat) (hi : i < n) (kd : Int) (w0 w1 w2 w3 : Nat) (xa xb m M xn : Int) (hx : xs[i]? = some ⟨kd, w0, w1, w2, w3, xa, xb, m, M, xn⟩) (Qp : qY ⟨kd, w0, w1, w2, w3, xa, xb, m, M, xn⟩ = true)
include hi hx Qp
theorem GO (hk : kd = 0 ∨ kd = 1 ∨ kd = 2 ∨ kd = 3 ∨ kd = 8) : Qf b o n cap xs i i := by
 have he := T.ends_leaf (l := fun i => xs[i]?) hx Qp hk
 have hu : ∀ c : Nat, ((i : Int) = c ↔ T.Ends (fun i => xs[i]?) c i) := fun c => by
  constructor
  ·intro h
   obtain rfl : c = i := by omega
   exact he
  ·intro h
   rw [h.uniq he]
 refine ⟨by omega, by omega, hu, fun w hw => ?_⟩
 clear hu
 have d := hw.cell i _ hx
 have d0 : w.cell? ⟨b, o + i * 10, none⟩ = some (.int .i64 kd) := d 0 _ rfl
 have n4 : (kd == 4) = false := by rw [beq_eq_false_iff_ne]; omega
 have n5 : (kd == 5) = false := by rw [beq_eq_false_iff_ne]; omega
 have n6 : (kd == 6) = false := by rw [beq_eq_false_iff_ne]; omega
 have n7 : (kd == 7) = false := by rw [beq_eq_false_iff_ne]; omega
 have UK : (i : Int) < n := by omega
 have hi0 : ((i : Int) < 0) = False := by simp
 clear d he hx Qp hk
 go_enter func128, ntmps128
 go_wp2
 go_ret
 exact ⟨rfl, Below.refl _ _⟩
end
section
variable (b o n cap : Nat) (xs : List Nd) (qq : xs.length = n) (hn : n ≤ 1000)
include qq hn
theorem YK (kd : Int) (hk : kd = 6 ∨ kd = 7) (i : Nat) (hi : i < n) (w0 w1 w2 w3 : Nat) (xa xb m M xn : Int) (hx : xs[i]? = some ⟨kd, w0, w1, w2, w3, xa, xb, m, M, xn⟩)
  (hE : ∀ c : Nat, T.Ends (fun i => xs[i]?) c i ↔ 1 ≤ i ∧ xa = (i : Int) - 1 ∧ T.Ends (fun i => xs[i]?) c (i - 1)) (ih : ∀ j, j < i → ∃ r, Qf b o n cap xs j r) : ∃ r, Qf b o n cap xs i r := by
 have UK : (i : Int) < n := by omega
 have hi0 : ((i : Int) < 0) = False := by simp
 have hw : IntKind.i64.wrap ((i : Int) - 1) = (i : Int) - 1 := by simp [IntKind.wrap, IntKind.signed, IntKind.bits]; omega
 have n4 : (kd == 4) = false := by rw [beq_eq_false_iff_ne]; omega
 have n5 : (kd == 5) = false := by rw [beq_eq_false_iff_ne]; omega
 by_cases ha : xa = (i : Int) - 1
 ·have vT : (xa == (i : Int) - 1) = true := by simp [ha]
  obtain ⟨r, Y9, hr1, Qo, kH⟩ : ∃ r : Int, -1 ≤ r ∧ r ≤ i ∧ (∀ c : Nat, r = c ↔ T.Ends (fun i => xs[i]?) c i) ∧ ∀ w, qn w b o xs → Calls prog 128 #[.slice (some ⟨b, o, none⟩) n cap, .int .i64 ((i : Int) - 1)] w fun e w' => e = .returned (.int .i64 r) ∧ Below w.heap.size w w' := by
   by_cases h0 : i = 0
   ·subst h0
    refine ⟨-1, by omega, by omega, fun c => ⟨fun h => by omega, fun h => by have := (hE c).1 h; omega⟩, fun w hw => ?_⟩
    exact YJ _ _ _ w
   ·obtain ⟨j, rfl⟩ : ∃ j, i = j + 1 := ⟨i - 1, by omega⟩
    obtain ⟨r, h1, h2, h3, h4⟩ := ih j (by omega)
    refine ⟨r, h1, by omega, fun c => ?_, fun w hw => ?_⟩
    ·rw [hE c, h3 c]
     constructor
     ·exact fun h => ⟨by omega, ha, h⟩
     ·exact fun h => h.2.2
    ·have := h4 w hw
     rw [show ((j + 1 : Nat) : Int) - 1 = j by omega]
     exact this
  refine ⟨r, Y9, hr1, Qo, fun w hW => ?_⟩
  have HC := ξ (kH w hW)
  have d := hW.cell i _ hx
  have d0 : w.cell? ⟨b, o + i * 10, none⟩ = some (.int .i64 kd) := d 0 _ rfl
  have d5 : w.cell? ⟨b, o + i * 10 + 5, none⟩ = some (.int .i64 xa) := d 5 _ rfl
  clear d hx hE ih Qo kH Y9 hr1 ha
  rcases hk with rfl | rfl
  ·go_enter func128, ntmps128
   go_wp2_with fail
   refine HC.out.mono ?_
   rintro e w1 ⟨rfl, hB⟩
   go_wp2
   go_ret
   exact ⟨rfl, hB⟩
  ·go_enter func128, ntmps128
   go_wp2_with fail
   refine HC.out.mono ?_
   rintro e w1 ⟨rfl, hB⟩
   go_wp2
   go_ret
   exact ⟨rfl, hB⟩
 ·refine ⟨-1, by omega, by omega, fun c => ⟨fun h => by omega, fun h => absurd ((hE c).1 h).2.1 ha⟩, fun w hW => ?_⟩
  have vT : (xa == (i : Int) - 1) = false := by rw [beq_eq_false_iff_ne]; exact ha
  have d := hW.cell i _ hx
  have d0 : w.cell? ⟨b, o + i * 10, none⟩ = some (.int .i64 kd) := d 0 _ rfl
  have d5 : w.cell? ⟨b, o + i * 10 + 5, none⟩ = some (.int .i64 xa) := d 5 _ rfl
  clear d hx hE ih ha
  rcases hk with rfl | rfl
  ·go_enter func128, ntmps128
   go_wp2
   go_ret
   exact ⟨rfl, Below.refl _ _⟩
  ·go_enter func128, ntmps128
   go_wp2
   go_ret
   exact ⟨rfl, Below.refl _ _⟩
theorem qbS (kd : Int) (hk : kd = 4 ∨ kd = 5) (i : Nat) (hi : i < n) (w0 w1 w2 w3 : Nat) (xa xb m M xn : Int) (hx : xs[i]? = some ⟨kd, w0, w1, w2, w3, xa, xb, m, M, xn⟩)
  (hE : ∀ d : Nat, T.Ends (fun i => xs[i]?) d i ↔ ∃ c, 1 ≤ i ∧ xb = (i : Int) - 1 ∧ T.Ends (fun i => xs[i]?) c (i - 1) ∧ 1 ≤ c ∧ xa = (c : Int) - 1 ∧ T.Ends (fun i => xs[i]?) d (c - 1)) (ih : ∀ j, j < i → ∃ r, Qf b o n cap xs j r) : ∃ r, Qf b o n cap xs i r := by
 have UK : (i : Int) < n := by omega
 have hi0 : ((i : Int) < 0) = False := by simp
 have hw : IntKind.i64.wrap ((i : Int) - 1) = (i : Int) - 1 := by simp [IntKind.wrap, IntKind.signed, IntKind.bits]; omega
 by_cases hb : xb = (i : Int) - 1
 ·have Ja : (xb == (i : Int) - 1) = true := by simp [hb]
  obtain ⟨r, Y9, hr1, Qo, kH⟩ : ∃ r : Int, -1 ≤ r ∧ (r ≤ (i : Int) - 1) ∧ (∀ c : Nat, r = c ↔ 1 ≤ i ∧ T.Ends (fun i => xs[i]?) c (i - 1)) ∧ ∀ w, qn w b o xs → Calls prog 128 #[.slice (some ⟨b, o, none⟩) n cap, .int .i64 ((i : Int) - 1)] w fun e w' => e = .returned (.int .i64 r) ∧ Below w.heap.size w w' := by
   by_cases h0 : i = 0
   ·subst h0
    refine ⟨-1, by omega, by omega, fun c => ⟨fun h => by omega, fun h => by omega⟩, fun w hw => ?_⟩
    exact YJ _ _ _ w
   ·obtain ⟨j, rfl⟩ : ∃ j, i = j + 1 := ⟨i - 1, by omega⟩
    obtain ⟨r, h1, h2, h3, h4⟩ := ih j (by omega)
    refine ⟨r, h1, by omega, fun c => ?_, fun w hw => ?_⟩
    ·rw [h3 c]
     constructor
     ·exact fun h => ⟨by omega, h⟩
     ·exact fun h => h.2
    ·have := h4 w hw
     rw [show ((j + 1 : Nat) : Int) - 1 = j by omega]
     exact this
  have hwr : IntKind.i64.wrap (r - 1) = r - 1 := by simp [IntKind.wrap, IntKind.signed, IntKind.bits]; omega
  by_cases hr : r < 1
  ·have We : (r < 1) = True := by simp [hr]
   refine ⟨-1, by omega, by omega, fun d => ⟨fun h => by omega, fun h => by
    obtain ⟨c, h1, _, h3, h4, _⟩ := (hE d).1 h
    have := (Qo c).2 ⟨h1, h3⟩
    omega⟩, fun w hW => ?_⟩
   have HC := ξ (kH w hW)
   have d := hW.cell i _ hx
   have d0 : w.cell? ⟨b, o + i * 10, none⟩ = some (.int .i64 kd) := d 0 _ rfl
   have d6 : w.cell? ⟨b, o + i * 10 + 6, none⟩ = some (.int .i64 xb) := d 6 _ rfl
   clear d hx hE ih Qo kH hb
   rcases hk with rfl | rfl
   ·go_enter func128, ntmps128
    go_wp2_with fail
    refine HC.out.mono ?_
    rintro e w1 ⟨rfl, hB⟩
    go_wp2
    go_ret
    exact ⟨rfl, hB⟩
   ·go_enter func128, ntmps128
    go_wp2_with fail
    refine HC.out.mono ?_
    rintro e w1 ⟨rfl, hB⟩
    go_wp2
    go_ret
    exact ⟨rfl, hB⟩
  ·have We : (r < 1) = False := by simp; omega
   obtain ⟨c, rfl⟩ : ∃ c : Nat, r = c := ⟨r.toNat, by omega⟩
   obtain ⟨h1i, hEc⟩ := (Qo c).1 rfl
   by_cases ha : xa = (c : Int) - 1
   ·have vT : (xa == (c : Int) - 1) = true := by simp [ha]
    obtain ⟨r2, k1, k2, k3, k4⟩ := ih (c - 1) (by omega)
    refine ⟨r2, k1, by omega, fun d => ?_, fun w hW => ?_⟩
    ·rw [hE d, k3 d]
     constructor
     ·exact fun h => ⟨c, h1i, hb, hEc, by omega, ha, h⟩
     ·rintro ⟨c', _, _, h3, h4, _, h6⟩
      rw [hEc.uniq h3]; exact h6
    ·have HC := ξ (kH w hW)
     have HD := ξ fun w hW => k4 w hW
     have d := hW.cell i _ hx
     have d0 : w.cell? ⟨b, o + i * 10, none⟩ = some (.int .i64 kd) := d 0 _ rfl
     have d6 : w.cell? ⟨b, o + i * 10 + 6, none⟩ = some (.int .i64 xb) := d 6 _ rfl
     have D := ξ fun w' (hB : Below w.heap.size w w') => (show w'.cell? ⟨b, o + i * 10 + 5, none⟩ = some (.int .i64 xa) from (hW.below hB hW.lt).cell i _ hx 5 _ rfl)
     have ec : ((c - 1 : Nat) : Int) = (c : Int) - 1 := by omega
     rw [ec] at HD
     clear d hE ih Qo kH hb k3 k4 ha hEc ec
     rcases hk with rfl | rfl
     ·go_enter func128, ntmps128
      go_wp2_with fail
      refine HC.out.mono ?_
      rintro e w1 ⟨rfl, hB⟩
      have d5 := D.out w1 hB
      have hW1 := hW.below hB hW.lt
      clear hx
      go_wp2_with fail
      refine (HD.out w1 hW1).mono ?_
      rintro e w2 ⟨rfl, zj⟩
      go_wp2
      go_ret
      exact ⟨rfl, hB.trans (zj.mono hB.size)⟩
     ·go_enter func128, ntmps128
      go_wp2_with fail
      refine HC.out.mono ?_
      rintro e w1 ⟨rfl, hB⟩
      have d5 := D.out w1 hB
      have hW1 := hW.below hB hW.lt
      clear hx
      go_wp2_with fail
      refine (HD.out w1 hW1).mono ?_
      rintro e w2 ⟨rfl, zj⟩
      go_wp2
      go_ret
      exact ⟨rfl, hB.trans (zj.mono hB.size)⟩
   ·have vT : (xa == (c : Int) - 1) = false := by rw [beq_eq_false_iff_ne]; exact ha
    refine ⟨-1, by omega, by omega, fun d => ⟨fun h => by omega, fun h => by
     obtain ⟨c', h1, _, h3, h4, h5, _⟩ := (hE d).1 h
     have := hEc.uniq h3
     subst this
     exact absurd h5 ha⟩, fun w hW => ?_⟩
    have HC := ξ (kH w hW)
    have d := hW.cell i _ hx
    have d0 : w.cell? ⟨b, o + i * 10, none⟩ = some (.int .i64 kd) := d 0 _ rfl
    have d6 : w.cell? ⟨b, o + i * 10 + 6, none⟩ = some (.int .i64 xb) := d 6 _ rfl
    have D := ξ fun w' (hB : Below w.heap.size w w') => (show w'.cell? ⟨b, o + i * 10 + 5, none⟩ = some (.int .i64 xa) from (hW.below hB hW.lt).cell i _ hx 5 _ rfl)
    clear d hE ih Qo kH hb ha hEc
    rcases hk with rfl | rfl
    ·go_enter func128, ntmps128
     go_wp2_with fail
     refine HC.out.mono ?_
     rintro e w1 ⟨rfl, hB⟩
     have d5 := D.out w1 hB
     clear hx
     go_wp2
     go_ret
     exact ⟨rfl, hB⟩
    ·go_enter func128, ntmps128
     go_wp2_with fail
     refine HC.out.mono ?_
     rintro e w1 ⟨rfl, hB⟩
     have d5 := D.out w1 hB
     clear hx
     go_wp2
     go_ret
     exact ⟨rfl, hB⟩
 ·refine ⟨-1, by omega, by omega, fun d => ⟨fun h => by omega, fun h => by
   obtain ⟨c', _, h2, _⟩ := (hE d).1 h
   exact absurd h2 hb⟩, fun w hW => ?_⟩
  have Ja : (xb == (i : Int) - 1) = false := by rw [beq_eq_false_iff_ne]; exact hb
  have d := hW.cell i _ hx
  have d0 : w.cell? ⟨b, o + i * 10, none⟩ = some (.int .i64 kd) := d 0 _ rfl
  have d6 : w.cell? ⟨b, o + i * 10 + 6, none⟩ = some (.int .i64 xb) := d 6 _ rfl
  clear d hx hE ih hb
  rcases hk with rfl | rfl
  ·go_enter func128, ntmps128
   go_wp2
   go_ret
   exact ⟨rfl, Below.refl _ _⟩
  ·go_enter func128, ntmps128
   go_wp2
   go_ret
   exact ⟨rfl, Below.refl _ _⟩
theorem qfQ (Qp : ∀ (i : Nat) (x : Nd), xs[i]? = some x → qY x = true) : ∀ i : Nat, i < n → ∃ r, Qf b o n cap xs i r := by
 intro i
 induction i using Nat.strongRecOn with
 | _ i ih =>
  intro hi
  have ih' : ∀ j, j < i → ∃ r, Qf b o n cap xs j r := fun j hj => ih j hj (by omega)
  obtain ⟨x, hx⟩ : ∃ x, xs[i]? = some x := ⟨xs[i]'(by omega), List.getElem?_eq_getElem (by omega)⟩
  have hd := Qp i x hx
  have hk := KC hd
  obtain ⟨kd, w0, w1, w2, w3, xa, xb, m, M, xn⟩ := x
  simp only at hk
  by_cases h4 : kd = 4 ∨ kd = 5
  ·exact qbS b o n cap xs qq hn kd h4 i hi w0 w1 w2 w3 xa xb m M xn hx (fun d => T.ends_two (l := fun i => xs[i]?) hx hd h4) ih'
  by_cases h6 : kd = 6
  ·exact YK b o n cap xs qq hn kd (.inl h6) i hi w0 w1 w2 w3 xa xb m M xn hx (fun d => T.ends_times (l := fun i => xs[i]?) hx hd h6) ih'
  by_cases h7 : kd = 7
  ·exact YK b o n cap xs qq hn kd (.inr h7) i hi w0 w1 w2 w3 xa xb m M xn hx (fun d => T.ends_group (l := fun i => xs[i]?) hx hd h7) ih'
  ·exact ⟨i, GO b o n cap xs i hi kd w0 w1 w2 w3 xa xb m M xn hx hd (by omega)⟩
end
structure Wk where
 g : Bool
 k : Nat
 en : Nat → Bool
 r : Bool
def Wk.cells (W : Wk) : Array Value := #[.bool W.g, .int .i64 W.k, .bool (W.en 0), .bool (W.en 1), .bool (W.en 2), .bool (W.en 3), .bool (W.en 4), .bool (W.en 5), .bool (W.en 6), .bool (W.en 7), .bool (W.en 8), .bool (W.en 9), .bool W.r]
theorem qjQ : (Tryz.prog.info? 142).map (fun i => (i.zero, i.size)) = some (some (.agg #[.bool false, .int .i64 0, .bool false, .bool false, .bool false, .bool false, .bool false, .bool false, .bool false, .bool false, .bool false, .bool false, .bool false]), 13) := by kernel_rfl
theorem KF : (Tryz.prog.info? 142).map (·.size) = some 13 := (zero_of_info qjQ).2
theorem Wk.cells_size (W : Wk) : W.cells.size = 13 := rfl
theorem Wk.cells_all (W : Wk) : W.cells.all (·.oneCell') = true := by simp [Wk.cells, Value.oneCell']
structure WB (w : World) (b : Nat) (v : Array Value) : Prop where
 heap : w.heap[b]? = some (.cells v 142 (0, 0))
section
variable {w w' : World} {b : Nat} {v : Array Value}
theorem WB.lt (h : WB w b v) : b < w.heap.size := (Array.getElem?_eq_some_iff.1 h.heap).1
theorem WB.below {B : Nat} (h : WB w b v) (hB : Below B w w') (hb : b < B) : WB w' b v := ⟨(hB.block b hb).trans h.heap⟩
theorem WB.load (h : WB w b v) (hs : v.size = 13) : (loadVar 142 ⟨b, 0, none⟩).run prog w = .ok (.agg v) w :=
 run_loadVar_row w b 142 142 v (0, 0) _ h.heap underlying142 rfl (by rw [KF, hs])
theorem WB.store (h : WB w b v) (hs : v.size = 13) (W : Wk) : (storeVar 142 ⟨b, 0, none⟩ (.agg W.cells)).run prog w = .ok () (w.setRow b W.cells) :=
 run_storeVar_row w b 142 142 v W.cells h.heap (by rw [KF, W.cells_size]) (by rw [hs, W.cells_size]) W.cells_all
theorem WB.storeCells (h : WB w b v) (hs : v.size = 13) (W : Wk) : (storeCells ⟨b, 0, none⟩ W.cells.toList).run prog w = .ok () (w.setRow b W.cells) := by
 have := h.store hs W
 have hz := KF
 cases hq : Tryz.prog.info? 142 with
 | none => simp [hq] at hz
 | some i =>
  have h2 : i.size = 13 := by simpa [hq] using hz
  simpa [storeVar, sizeOf, typeInfo, hq, Value.cells, h2, W.cells_size] using this
theorem WB.put (h : WB w b v) (v' : Array Value) : WB (w.setRow b v') b v' := ⟨by
 obtain ⟨zb, hk⟩ := Array.getElem?_eq_some_iff.1 h.heap
 show (w.heap.modify b _)[b]? = _
 rw [Array.getElem?_eq_getElem (by rw [Array.size_modify]; exact zb), Array.getElem_modify_self, hk]⟩
theorem WB.cell (h : WB w b v) (j : Nat) : w.cell? ⟨b, j, none⟩ = v[j]? := cell_of _ _ _ _ h.heap j
theorem WB.fz (h : WB w b v) (j : Nat) : w.frozen? ⟨b, j, none⟩ = false := qD _ _ _ _ h.heap j
end
def rk : T → Int
 | .leaf x => x.kind
 | .two k _ _ => k
 | .times _ _ _ => 6
 | .group _ _ => 7
theorem Q3 (t : T) (o : Nat) : (t.root o).kind = rk t := by cases t <;> rfl
def yf (k : Int) (a b : T) : Bool := if k = 4 then !(decide (rk a = 4) || decide (rk a = 5) || decide (rk b = 5)) else !decide (rk a = 5)
def jf (t : T) : Bool := decide (rk t = 1) || decide (rk t = 7) || decide (rk t = 8)
def jo (one : Bool) : T → Wk → Wk
 | .leaf x, W => if x.kind = 8 then ⟨W.g && W.en x.n.toNat, W.k, W.en, true⟩ else if x.kind = 0 then ⟨W.g && one, W.k, W.en, W.r⟩ else W
 | .two k a b, W => jo one b (jo one a ⟨W.g && yf k a b, W.k, W.en, W.r⟩)
 | .times m M t, W => jo one t ⟨W.g && jf t, W.k, W.en, W.r⟩
 | .group n t, W => ⟨(jo one t ⟨W.g && decide (((W.k : Int) + 1) = n), W.k + 1, W.en, W.r⟩).g, (jo one t ⟨W.g && decide (((W.k : Int) + 1) = n), W.k + 1, W.en, W.r⟩).k, fun i => if i = n.toNat then true else (jo one t ⟨W.g && decide (((W.k : Int) + 1) = n), W.k + 1, W.en, W.r⟩).en i, (jo one t ⟨W.g && decide (((W.k : Int) + 1) = n), W.k + 1, W.en, W.r⟩).r⟩
def tOk (one : Bool) : T → Prop
 | .leaf x => x.kind = 0 → one = true
 | .two k a b => yf k a b = true ∧ tOk one a ∧ tOk one b
 | .times m M t => jf t = true ∧ tOk one t
 | .group n t => tOk one t
theorem V8 (one : Bool) : ∀ (t : T) (W : Wk), (jo one t W).k = W.k + t.groups
 | .leaf x, W => by
  simp only [jo, T.groups]
  split
  ·rfl
  ·split <;> rfl
 | .two k a b, W => by simp only [jo, T.groups, V8 one a, V8 one b]; omega
 | .times m M t, W => by simp only [jo, T.groups, V8 one t]
 | .group n t, W => by simp only [jo, T.groups, V8 one t]; omega
theorem Wt (one : Bool) : ∀ (t : T) (W : Wk), ((jo one t W).r = true ↔ W.r = true ∨ 0 < t.refs)
 | .leaf x, W => by
  simp only [jo, T.refs]
  by_cases h8 : x.kind = 8
  ·rw [if_pos h8, if_pos h8]; simp
  ·rw [if_neg h8, if_neg h8]
   split <;> simp
 | .two k a b, W => by
  have h1 := Wt one a ⟨W.g && yf k a b, W.k, W.en, W.r⟩
  have h2 := Wt one b (jo one a ⟨W.g && yf k a b, W.k, W.en, W.r⟩)
  have e : (T.two k a b).refs = a.refs + b.refs := rfl
  rw [e]
  show (jo one b (jo one a ⟨W.g && yf k a b, W.k, W.en, W.r⟩)).r = true ↔ _
  rw [h2, h1]
  constructor
  ·rintro ((h | h) | h)
   ·exact .inl h
   ·exact .inr (by omega)
   ·exact .inr (by omega)
  ·rintro (h | h)
   ·exact .inl (.inl h)
   ·by_cases q : 0 < a.refs
    ·exact .inl (.inr q)
    ·exact .inr (by omega)
 | .times m M t, W => Wt one t ⟨W.g && jf t, W.k, W.en, W.r⟩
 | .group n t, W => Wt one t ⟨W.g && decide (((W.k : Int) + 1) = n), W.k + 1, W.en, W.r⟩
theorem QE (one : Bool) : ∀ (t : T) (W : Wk), ((jo one t W).g = true ↔ W.g = true ∧ tOk one t ∧ (num t (W.k, W.en)).isSome = true) ∧ (∀ u, num t (W.k, W.en) = some u → (jo one t W).k = u.1 ∧ (jo one t W).en = u.2)
 | .leaf x, W => by
  simp only [jo, tOk, num]
  by_cases h8 : x.kind = 8
  ·rw [if_pos h8, if_pos h8]
   have h0 : x.kind ≠ 0 := by omega
   by_cases he : W.en x.n.toNat = true
   ·rw [if_pos he]
    simp [he, h0]
   ·rw [if_neg he]
    simp [he]
  ·rw [if_neg h8, if_neg h8]
   by_cases h0 : x.kind = 0
   ·rw [if_pos h0]
    simp [h0]
   ·rw [if_neg h0]
    simp [h0]
 | .two k a b, W => by
  have iha := QE one a ⟨W.g && yf k a b, W.k, W.en, W.r⟩
  have ihb := QE one b (jo one a ⟨W.g && yf k a b, W.k, W.en, W.r⟩)
  simp only at iha
  simp only [jo, tOk, num]
  generalize jo one a ⟨W.g && yf k a b, W.k, W.en, W.r⟩ = U at *
  cases hn : num a (W.k, W.en) with
  | none =>
   rw [hn] at iha
   refine ⟨?_, fun u h => by simp at h⟩
   rw [ihb.1, iha.1]
   simp
  | some v =>
   obtain ⟨e1, e2⟩ := iha.2 v hn
   rw [hn] at iha
   have ev : (U.k, U.en) = v := by rw [e1, e2]
   rw [ev] at ihb
   refine ⟨?_, fun u h => ihb.2 u (by simpa using h)⟩
   rw [ihb.1, iha.1]
   simp [and_assoc]
 | .times m M t, W => by
  have ih := QE one t ⟨W.g && jf t, W.k, W.en, W.r⟩
  simp only at ih
  simp only [jo, tOk, num]
  refine ⟨?_, ih.2⟩
  rw [ih.1]
  simp [and_assoc]
 | .group n t, W => by
  have ih := QE one t ⟨W.g && decide (((W.k : Int) + 1) = n), W.k + 1, W.en, W.r⟩
  simp only at ih
  simp only [jo, tOk, num]
  generalize jo one t ⟨W.g && decide (((W.k : Int) + 1) = n), W.k + 1, W.en, W.r⟩ = U at *
  by_cases hc : n = (W.k : Int) + 1
  ·have kZ : ((W.k : Int) + 1) = n := hc.symm
   rw [if_pos hc]
   refine ⟨?_, fun u h => ?_⟩
   ·rw [ih.1, decide_eq_true kZ]
    cases num t (W.k + 1, W.en) <;> simp
   ·rw [Option.map_eq_some_iff] at h
    obtain ⟨v, hv, rfl⟩ := h
    obtain ⟨e1, e2⟩ := ih.2 v hv
    exact ⟨e1, by rw [e2]⟩
  ·have kZ : ¬ ((W.k : Int) + 1) = n := fun e => hc e.symm
   rw [if_neg hc]
   refine ⟨?_, fun u h => by cases h⟩
   rw [ih.1, decide_eq_false kZ]
   simp
def yH (b o0 n cap : Nat) (xs : List Nd) (t : T) : Prop := ∀ (o k : Nat) (S : Wk) (w : World), T.At (fun i => xs[i]?) t o → o + t.size = k + 1 → k < n → S.k + t.size ≤ 1000 → qn w b o0 xs →
 Calls prog 129 #[.slice (some ⟨b, o0, none⟩) n cap, .int .i64 (k : Int), .agg S.cells] w fun e w' => e = .returned (.agg (jo (decide (n = 1)) t S).cells) ∧ Below w.heap.size w w'
theorem qaL (w : World) (o1 o2 o3 : Obj) : (((w.alloc o1).alloc o2).alloc o3).heap[w.heap.size + 1]? = some o2 := by
 rw [qK _ _ _ (by rw [World.size_alloc, World.size_alloc]; omega)]
 have := zt (w.alloc o1) o2
 rw [World.size_alloc] at this
 exact this
theorem XE (w : World) (o1 o2 o3 : Obj) : Below w.heap.size w (((w.alloc o1).alloc o2).alloc o3) := (((Below.refl _ w).alloc (Nat.le_refl _) _).alloc (by rw [World.size_alloc]; omega) _).alloc (by rw [World.size_alloc, World.size_alloc]; omega) _
structure Ks (w : World) (b o : Nat) (xs : List Nd) (x : Nd) (W : Wk) (w' : World) : Prop where
 nodes : qn w' b o xs
 wb : WB w' w.heap.size W.cells
 rb : ∃ v, WB w' (w.heap.size + 1) v ∧ v.size = 13
 nb : w'.heap[w.heap.size + 2]? = some (.cells x.cells 73 (0, 0))
 b : Below w.heap.size w w'
section
variable {w w1 w2 : World} {b o : Nat} {xs : List Nd} {x : Nd} {W : Wk}
theorem Ks.size (h : Ks w b o xs x W w1) : w.heap.size + 3 ≤ w1.heap.size := (Array.getElem?_eq_some_iff.1 h.nb).1
theorem Ks.step (h : Ks w b o xs x W w1) (hB : Below w1.heap.size w1 w2) : Ks w b o xs x W w2 := by
 have hs := h.size
 obtain ⟨v, hv, hz⟩ := h.rb
 exact ⟨h.nodes.below hB h.nodes.lt, h.wb.below hB h.wb.lt, ⟨v, hv.below hB hv.lt, hz⟩, (hB.block _ (by omega)).trans h.nb, h.b.trans (hB.mono h.b.size)⟩
theorem Ks.drew (h : Ks w b o xs x W w1) : Ks w b o xs x W w1.drew := h.step ((Below.refl _ _).drew)
theorem Ks.new (hx : qn w b o xs) (x : Nd) (W : Wk) (v : Array Value) (hv : v.size = 13) : Ks w b o xs x W (((w.alloc (.cells W.cells 142)).alloc (.cells v 142)).alloc (.cells x.cells 73)) := by
 refine ⟨((hx.alloc _).alloc _).alloc _, ⟨?_⟩, ⟨v, ⟨qaL w _ _ _⟩, hv⟩, ?_, XE w _ _ _⟩
 ·rw [qK _ _ _ (by rw [World.size_alloc, World.size_alloc]; omega), qK _ _ _ (by rw [World.size_alloc]; omega)]
  exact zt _ _
 ·have := zt ((w.alloc (.cells W.cells 142)).alloc (.cells v 142)) (.cells x.cells 73)
  rw [World.size_alloc, World.size_alloc] at this
  exact this
theorem Ks.ncell (h : Ks w b o xs x W w1) (j : Nat) : w1.cell? ⟨w.heap.size + 2, j, none⟩ = x.cells[j]? := by rw [cell_of _ _ _ _ h.nb]
end
theorem ZL (b o0 n cap : Nat) (xs : List Nd) (qq : xs.length = n) (hn : n ≤ 120) (kd : Int) (ks : kd = 1 ∨ kd = 2 ∨ kd = 3) (w0 w1 w2 w3 : Nat) (xa xb m M xn : Int) : yH b o0 n cap xs (T.leaf ⟨kd, w0, w1, w2, w3, xa, xb, m, M, xn⟩) := by
 rintro o k ⟨g, j, en, r⟩ w ha he hk hj hw
 have hr := ha.root
 rw [show o + (T.leaf ⟨kd, w0, w1, w2, w3, xa, xb, m, M, xn⟩).size - 1 = k by omega] at hr
 have lb := hw.lt
 have zO : (k : Int) < n := by omega
 have qu := hw.cell k _ hr
 have d_ := zB qu
 have ql := fun (C : Array Value) (o1 o3 : Obj) (h : C.size = 13) => (WB.mk (qaL w o1 (.cells C 142) o3)).load h
 have et : jo (decide (n = 1)) (T.leaf ⟨kd, w0, w1, w2, w3, xa, xb, m, M, xn⟩) ⟨g, j, en, r⟩ = ⟨g, j, en, r⟩ := by rcases ks with rfl | rfl | rfl <;> rfl
 rw [et]
 clear qu hr ha et
 have f4 : (kd == 4) = false := by rcases ks with rfl | rfl | rfl <;> rfl
 have f5 : (kd == 5) = false := by rcases ks with rfl | rfl | rfl <;> rfl
 have f6 : (kd == 6) = false := by rcases ks with rfl | rfl | rfl <;> rfl
 have f7 : (kd == 7) = false := by rcases ks with rfl | rfl | rfl <;> rfl
 have f8 : (kd == 8) = false := by rcases ks with rfl | rfl | rfl <;> rfl
 have f0 : (kd == 0) = false := by rcases ks with rfl | rfl | rfl <;> rfl
 clear ks
 unfold Wk.cells
 go_enter func129, ntmps129
 go_wp2
 refine bodyPost_ret (v := _) ?_ rfl ⟨rfl, XE w _ _ _⟩
 simp [results, results129, asAddr, Result.andThen, ql]
theorem GJ (b o0 n cap : Nat) (xs : List Nd) (qq : xs.length = n) (hn : n ≤ 120) (w0 w1 w2 w3 : Nat) (xa xb m M xn : Int) : yH b o0 n cap xs (T.leaf ⟨1, w0, w1, w2, w3, xa, xb, m, M, xn⟩) := ZL b o0 n cap xs qq hn 1 (by omega) w0 w1 w2 w3 xa xb m M xn
theorem GK (b o0 n cap : Nat) (xs : List Nd) (qq : xs.length = n) (hn : n ≤ 120) (w0 w1 w2 w3 : Nat) (xa xb m M xn : Int) : yH b o0 n cap xs (T.leaf ⟨2, w0, w1, w2, w3, xa, xb, m, M, xn⟩) := ZL b o0 n cap xs qq hn 2 (by omega) w0 w1 w2 w3 xa xb m M xn
theorem GM (b o0 n cap : Nat) (xs : List Nd) (qq : xs.length = n) (hn : n ≤ 120) (w0 w1 w2 w3 : Nat) (xa xb m M xn : Int) : yH b o0 n cap xs (T.leaf ⟨3, w0, w1, w2, w3, xa, xb, m, M, xn⟩) := ZL b o0 n cap xs qq hn 3 (by omega) w0 w1 w2 w3 xa xb m M xn
theorem GI (b o0 n cap : Nat) (xs : List Nd) (qq : xs.length = n) (hn : n ≤ 120) (w0 w1 w2 w3 : Nat) (xa xb m M xn : Int) : yH b o0 n cap xs (T.leaf ⟨0, w0, w1, w2, w3, xa, xb, m, M, xn⟩) := by
 rintro o k ⟨g, j, en, r⟩ w ha he hk hj hw
 have hr := ha.root
 rw [show o + (T.leaf ⟨0, w0, w1, w2, w3, xa, xb, m, M, xn⟩).size - 1 = k by omega] at hr
 have lb := hw.lt
 have zO : (k : Int) < n := by omega
 have qu := hw.cell k _ hr
 have d_ := zB qu
 have ql := fun (C : Array Value) (o1 o3 : Obj) (h : C.size = 13) => (WB.mk (qaL w o1 (.cells C 142) o3)).load h
 have et : jo (decide (n = 1)) (T.leaf ⟨0, w0, w1, w2, w3, xa, xb, m, M, xn⟩) ⟨g, j, en, r⟩ = ⟨g && decide (n = 1), j, en, r⟩ := rfl
 rw [et]
 clear qu hr ha et
 unfold Wk.cells
 obtain ⟨hb, h1⟩ | ⟨hb, h1⟩ : (((n : Int) == 1) = true ∧ decide (n = 1) = true) ∨ (((n : Int) == 1) = false ∧ decide (n = 1) = false) := by
  by_cases h : n = 1
  ·exact Or.inl ⟨by simp; omega, decide_eq_true h⟩
  ·exact Or.inr ⟨by rw [beq_eq_false_iff_ne]; omega, decide_eq_false h⟩
 all_goals
  rw [h1]
  clear h1
  simp only [Bool.and_true, Bool.and_false]
  go_enter func129, ntmps129
  go_wp2
  refine bodyPost_ret (v := _) ?_ rfl ⟨rfl, XE w _ _ _⟩
  simp [results, results129, asAddr, Result.andThen, ql]
theorem GN (b o0 n cap : Nat) (xs : List Nd) (qq : xs.length = n) (hn : n ≤ 120) (x : Nat) (hx : x < 10) (w0 w1 w2 w3 : Nat) (xa xb m M : Int) : yH b o0 n cap xs (T.leaf ⟨8, w0, w1, w2, w3, xa, xb, m, M, x⟩) := by
 rintro o k ⟨g, j, en, r⟩ w ha he hk hj hw
 have hr := ha.root
 rw [show o + (T.leaf ⟨8, w0, w1, w2, w3, xa, xb, m, M, x⟩).size - 1 = k by omega] at hr
 have lb := hw.lt
 have zO : (k : Int) < n := by omega
 have qu := hw.cell k _ hr
 have d_ := zB qu
 have ql := fun (C : Array Value) (o1 o3 : Obj) (h : C.size = 13) => (WB.mk (qaL w o1 (.cells C 142) o3)).load h
 have et : jo (decide (n = 1)) (T.leaf ⟨8, w0, w1, w2, w3, xa, xb, m, M, x⟩) ⟨g, j, en, r⟩ = ⟨g && en x, j, en, true⟩ := rfl
 rw [et]
 clear qu hr ha et
 cases h : en x
 all_goals
  rcases (by omega : x = 0 ∨ x = 1 ∨ x = 2 ∨ x = 3 ∨ x = 4 ∨ x = 5 ∨ x = 6 ∨ x = 7 ∨ x = 8 ∨ x = 9) with rfl | rfl | rfl | rfl | rfl | rfl | rfl | rfl | rfl | rfl
  all_goals as_aux_lemma =>
   simp only [Wk.cells, Bool.and_true, Bool.and_false]
   go_enter func129, ntmps129
   go_wp2
   refine bodyPost_ret (v := _) ?_ rfl ⟨rfl, XE w _ _ _⟩
   simp [results, results129, asAddr, Result.andThen, ql, h]
end Go.Proofs.YtjgegohidhdbpaaGreatDoor
