/- find: one and the same ten spans are equal. -/
import Derived.Test.YtgllmhheahlpjaaGreatDoorJFdG
import Derived.ChangeKeysEq
set_option linter.unusedVariables false
set_option linter.unusedSimpArgs false
set_option maxRecDepth 100000
set_option maxHeartbeats 40000000
namespace Go.Proofs.YtgllmhheahlpjaaGreatDoor
open Go.RowKit Go.Lib Go.Proofs.YtgllmhheahlpjaaGreatDoor.Fl
theorem infoCx : ∃ i, Tryz.prog.info? 25 = some i := info_of_underlying Tryz.underlying25
theorem oneCx : Tryz.prog.cellsOf 25 = 1 := by kernel_rfl
theorem eqIn_spV (d : Nat) (o : Option (Nat × Nat)) (ho : ∀ a b, o = some (a, b) → a ≤ 999999999 ∧ b ≤ 999999999) (w : World) : (Op.equalIn (d + 1) 25 (spV o) (spV o)).run Tryz.prog w = .ok true w := by
 cases o with
 | none =>
  have o1 : Ieee.double.order NEGB NEGB = some Ordering.eq := by decide +kernel
  simp only [spV]
  simp [Op.equalIn, run_underlying Tryz.underlying25, Op.floatEq, show FloatKind.f64.format = Ieee.double from rfl, o1]
 | some x =>
  obtain ⟨a, b⟩ := x
  obtain ⟨h1, h2⟩ := ho a b rfl
  have hv : ∀ a : Nat, a ≤ 999999999 → val (floatOfInt .f64 (a : Int)) = some (a : Int) := fun a h => val_floatOfInt (by have : (2 : Nat) ^ 53 = 9007199254740992 := rfl; omega)
  have o1 := order_val (hv a h1) (hv a h1)
  have o2 := order_val (hv b h2) (hv b h2)
  rw [compare_self] at o1 o2
  simp only [spV]
  simp [Op.equalIn, run_underlying Tryz.underlying25, Op.floatEq, show FloatKind.f64.format = Ieee.double from rfl, o1, o2]
theorem eqItems_spV (d : Nat) (A : Cp) (hA : ∀ g a b, A g = some (a, b) → a ≤ 999999999 ∧ b ≤ 999999999) (w : World) : ∀ is : List Nat, (∀ i ∈ is, i < 10) → (Op.eqItems (d + 1) 25 1 (cH A) (cH A) is).run Tryz.prog w = .ok true w
 | [], _ => by simp [Op.eqItems]
 | i :: is, h => by
  have hi : i < 10 := h i (by simp)
  have hv : (cH A)[i]? = some (spV (A i)) := by
   rcases (by omega : i = 0 ∨ i = 1 ∨ i = 2 ∨ i = 3 ∨ i = 4 ∨ i = 5 ∨ i = 6 ∨ i = 7 ∨ i = 8 ∨ i = 9) with rfl | rfl | rfl | rfl | rfl | rfl | rfl | rfl | rfl | rfl <;> rfl
  have hp : (Go.part 25 (cH A) i).run Tryz.prog w = .ok (spV (A i)) w := by simp [Go.part, isAgg, run_underlying Tryz.underlying25, hv]
  have ih := eqItems_spV d A hA w is (fun j hj => h j (by simp [hj]))
  simp only [Op.eqItems, Nat.mul_one, Sem.run_bind, hp, Result.andThen_ok, eqIn_spV d (A i) (fun a b e => hA i a b e) w]
  simpa using ih
theorem eq_caps (A : Cp) (hA : ∀ g a b, A g = some (a, b) → a ≤ 999999999 ∧ b ≤ 999999999) (w : World) : (binOp .eql 27 (capV A) (capV A)).run Tryz.prog w = .ok (.bool true) w := by
 obtain ⟨i, hi⟩ := infoCx
 have h : (Op.equalIn 10000 27 (.agg (cH A)) (.agg (cH A))).run Tryz.prog w = .ok true w := by
  rw [show (10000 : Nat) = 9999 + 1 from rfl, run_equalIn_array w 9999 (cH A) (cH A) Tryz.underlying27 hi, oneCx]
  exact eqItems_spV 9998 A hA w _ (fun j hj => by simpa using hj)
 show (binOp .eql 27 (.agg (cH A)) (.agg (cH A))).run Tryz.prog w = _
 simp only [binOp]
 simp [Op.equal, show Op.maxDepth = 10000 from rfl, h, asBool]
theorem neq_caps (A : Cp) (hA : ∀ g a b, A g = some (a, b) → a ≤ 999999999 ∧ b ≤ 999999999) (w : World) : (binOp .neq 27 (capV A) (capV A)).run Tryz.prog w = .ok (.bool false) w := by
 obtain ⟨i, hi⟩ := infoCx
 have h : (Op.equalIn 10000 27 (.agg (cH A)) (.agg (cH A))).run Tryz.prog w = .ok true w := by
  rw [show (10000 : Nat) = 9999 + 1 from rfl, run_equalIn_array w 9999 (cH A) (cH A) Tryz.underlying27 hi, oneCx]
  exact eqItems_spV 9998 A hA w _ (fun j hj => by simpa using hj)
 show (binOp .neq 27 (.agg (cH A)) (.agg (cH A))).run Tryz.prog w = _
 simp only [binOp]
 simp [Op.equal, show Op.maxDepth = 10000 from rfl, h, asBool]
theorem neq_gd (A B : Cp) (x y : Operand) (w : World) : (eqGuard .neq 27 x y (capV A) (capV B)).run Tryz.prog w = .ok () w := by
 unfold capV
 simp [eqGuard]
theorem eq_gd (A B : Cp) (x y : Operand) (w : World) : (eqGuard .eql 27 x y (capV A) (capV B)).run Tryz.prog w = .ok () w := by
 unfold capV
 simp [eqGuard]
end Go.Proofs.YtgllmhheahlpjaaGreatDoor
namespace Go.Proofs.YtgllmhheahlpjaaGreatDoor
open Go.RowKit Go.Lib Go.Maps Go.WideMaps Go.Proofs.YtgllmhheahlpjaaGreatDoor.Fl
section
variable {p : Option Addr} {n cap : Nat} {xs : List Nd} {s : List UInt8} {w : World} {C : Nat → Cp} {F : Nat → Option Nat}
theorem cap_ok {A : Cp} {n : Nat} (h : CapOk n A) (hn : n ≤ 9) : ∀ g a b, A g = some (a, b) → a ≤ 999999999 ∧ b ≤ 999999999 := fun g a b e => by have := h g a b e; omega
theorem capP_ok (hF : FindF p n cap s w C F) (q : Option (Nat × Nat)) : CapOk s.length (capP C q) := by
 cases q with
 | none => exact fun g a b e => by cases e
 | some x => exact hF.ok x.1
theorem later_go (hN : Nodes w p n xs) (hbd : bd7 xs s = true) (hF : FindF p n cap s w C F) (f m : Nat) (hf : f < 256) (hm : m < 256) (hsh : ∀ W, Below w.heap.size w W → Calls Tryz.prog 26 #[] W fun e w' => e = .returned (.bool true) ∧ Below W.heap.size W w') :
  Calls Tryz.prog 10 #[.slice p n cap, .string ⟨s.toArray⟩, .int .u8 (f : Int), .int .u8 (m : Int)] w fun e w' => e = .returned (.bool true) ∧ Below w.heap.size w w' := by
 have HBD : Hid (Calls Tryz.prog 25 #[.slice p n cap, .string ⟨s.toArray⟩] w fun e w' => e = .returned (.bool true) ∧ w' = w) := Lib.hid (by have := bounded7_c p n cap xs s w hN; rw [hbd] at this; exact this)
 have HSH := Lib.hid hsh
 have hlen := hF.len
 obtain ⟨a, ha⟩ : ∃ a, a = f % (s.length + 1) := ⟨_, rfl⟩
 obtain ⟨b, hb⟩ : ∃ b, b = a + m % 5 := ⟨_, rfl⟩
 have hab : a ≤ b := by omega
 have haN : a ≤ 100 := by have := Nat.mod_lt f (show 0 < s.length + 1 by omega); omega
 have hbN : b ≤ 200 := by omega
 have hka : (f : Int) % ((s.length : Int) + 1) = (a : Int) := by rw [ha]; simp
 have hkb : (a : Int) + (m : Int) % 5 = (b : Int) := by rw [hb]; simp
 have HK := Lib.hid (And.intro hka hkb)
 obtain ⟨q1, hq1⟩ : ∃ q1, q1 = fstP F s.length a := ⟨_, rfl⟩
 obtain ⟨q2, hq2⟩ : ∃ q2, q2 = fstP F s.length b := ⟨_, rfl⟩
 have HFA : Hid (FirstK p n cap s w C (a : Int) q1) := Lib.hid (by rw [hq1]; exact ffirst_c hF (a : Int) a (by omega) (by omega))
 have HFB : Hid (FirstK p n cap s w C (b : Int) q2) := Lib.hid (by rw [hq2]; exact ffirst_c hF (b : Int) b (by omega) (by omega))
 obtain ⟨Y, hY⟩ : ∃ Y, Y = capP C q1 := ⟨_, rfl⟩
 obtain ⟨Z, hZ⟩ : ∃ Z, Z = capP C q2 := ⟨_, rfl⟩
 unfold FirstK at HFA HFB
 rw [← hY] at HFA
 rw [← hZ] at HFB
 have HF := Lib.hid hF
 have HQ := Lib.hid (And.intro hq1 (And.intro hq2 (And.intro hY hZ)))
 clear hN hbd hF hsh ha hb hka hkb hq1 hq2 hY hZ
 go_enter Tryz.func10, Tryz.ntmps10
 go_wp2_with fail
 refine HBD.out.mono ?_
 rintro e w0 ⟨rfl, hw0⟩
 obtain rfl := hw0
 go_wp2_with fail
 refine (HSH.out _ (Below.refl _ _)).mono ?_
 rintro e w1 ⟨rfl, hB1⟩
 have HB1 := Lib.hid hB1
 clear hB1
 go_wp2_with fail
 rw [HK.out.1]
 rw [show wrap64 ((a : Int) + (m : Int) % 5) = (b : Int) by rw [HK.out.2]; simp [wrap64, IntKind.wrap, IntKind.signed, IntKind.bits]; omega]
 refine (HFA.out _ HB1.out).mono ?_
 rintro e w2 ⟨rfl, hB2⟩
 have HB2 := Lib.hid (HB1.out.trans (hB2.mono HB1.out.size))
 have hb3 := capBlk w2 Y
 have HB3 := Lib.hid (HB2.out.alloc HB2.out.size (.cells (cH Y) 27))
 have HS3 : Hid (w2.heap.size < (w2.alloc (.cells (cH Y) 27)).heap.size) := Lib.hid (by rw [World.size_alloc]; omega)
 have HK3 := Lib.hid hb3
 clear hB2 hb3
 unfold capV
 go_wp2_with fail
 refine (HFB.out _ HB3.out).mono ?_
 rintro e w4 ⟨rfl, hB4⟩
 have hb4 := HK3.out.below hB4 HS3.out
 have HB4 := Lib.hid (HB3.out.trans (hB4.mono HB3.out.size))
 have HB5 := Lib.hid (HB4.out.alloc HB4.out.size (.cells (cH Z) 27))
 have hb5 := hb4.alloc (.cells (cH Z) 27)
 have hz5 := capBlk w4 Z
 obtain ⟨k0, k1, k2, k3, k4, k5, k6, k7, k8, k9⟩ := capBlk.ten hb4
 obtain ⟨j0, j1, j2, j3, j4, j5, j6, j7, j8, j9⟩ := capBlk.ten hb5
 obtain ⟨z0, z1, z2, z3, z4, z5, z6, z7, z8, z9⟩ := capBlk.ten hz5
 clear hB4 hb4 hb5 hz5
 unfold capV
 cases hq1 : q1 with
 | none =>
  have hq2 : q2 = none := by rw [HQ.out.2.1]; exact fst_later_none hab (by rw [← HQ.out.1, hq1])
  subst hq1
  subst hq2
  simp only [Option.isSome_none]
  go_wp2
  go_ret
  exact ⟨rfl, HB5.out⟩
 | some x =>
  obtain ⟨i, e1⟩ := x
  have hf := fst_some HF.out.bd (show fstP F s.length a = some (i, e1) by rw [← HQ.out.1, hq1])
  have hY0 : Y 0 = some (i, e1) := by rw [HQ.out.2.2.1, hq1]; exact HF.out.at0 i e1 hf.2.2.2.1
  have HFR : Hid (∀ w, Calls Tryz.prog 36 #[spV (Y 0)] w fun e w' => e = .returned (.int .i64 (i : Int)) ∧ w' = w) := Lib.hid (fun w => by rw [hY0]; exact from_at hf.2.1 (by omega) w)
  by_cases hib : i < b
  ·have q1 : (i : Int) < (b : Int) := by omega
   subst hq1
   clear hf hY0
   simp only [Option.isSome_some]
   go_wp2_with fail
   refine (HFR.out _).mono ?_
   rintro e w6 ⟨rfl, rfl⟩
   go_wp2
   go_ret
   exact ⟨rfl, HB5.out⟩
  ·have hq2 : q2 = some (i, e1) := by rw [HQ.out.2.1]; exact fst_later HF.out.bd hab (by rw [← HQ.out.1, hq1]) (by omega)
   have hZY : Z = Y := by rw [HQ.out.2.2.1, HQ.out.2.2.2, hq1, hq2]
   have HE := Lib.hid (fun w => eq_caps Y (cap_ok (by rw [HQ.out.2.2.1]; exact capP_ok HF.out q1) hlen) w)
   have HG := Lib.hid (fun x y w => eq_gd Y Y x y w)
   have q1 : ¬ (i : Int) < (b : Int) := by omega
   subst hq1
   subst hq2
   subst hZY
   clear hf hY0
   simp only [Option.isSome_some]
   unfold capV at HE HG
   go_wp2_with fail
   refine (HFR.out _).mono ?_
   rintro e w6 ⟨rfl, rfl⟩
   have he := HE.out
   have hg := HG.out
   go_wp2
   go_ret
   exact ⟨rfl, HB5.out⟩
end
theorem findLaterB (p : Option Addr) (n cap : Nat) (xs : List Nd) (t : ByteArray) (f m : Nat) (w : World) (hN : Nodes w p n xs) (hs : t.size ≤ reachBytes) (hlf : f < 256) (hlm : m < 256) (hf : Fit4 w) :
  Calls Tryz.prog 10 #[.slice p n cap, .string t, .int .u8 (f : Int), .int .u8 (m : Int)] w fun e w' => e = .returned (.bool true) ∧ Below w.heap.size w w' := by
 obtain ⟨s, rfl⟩ : ∃ s : List UInt8, t = ⟨s.toArray⟩ := ⟨t.data.toList, by simp⟩
 have hsh : ∀ W, Below w.heap.size w W → Calls Tryz.prog 26 #[] W fun e w' => e = .returned (.bool true) ∧ Below W.heap.size W w' := fun W hB => shown7_c W (hf.below hB) (hf.below hB).f.fit.tab (hf.below hB).f.fit.pos
 cases hbd : bd7 xs s with
 | true =>
  obtain ⟨C, F, hF⟩ := find_calls (cap := cap) (s := s) hN hbd hf.f.fit.tab hf.f.fit.pos
  exact later_go hN hbd hF f m hlf hlm hsh
 | false =>
  have HBD : Hid (Calls Tryz.prog 25 #[.slice p n cap, .string ⟨s.toArray⟩] w fun e w' => e = .returned (.bool false) ∧ w' = w) := Lib.hid (by have := bounded7_c p n cap xs s w hN; rw [hbd] at this; exact this)
  have HSH := Lib.hid hsh
  clear hN hbd hsh hf hs
  go_enter Tryz.func10, Tryz.ntmps10
  go_wp2_with fail
  refine HBD.out.mono ?_
  rintro e w0 ⟨rfl, hw0⟩
  obtain rfl := hw0
  go_wp2_with fail
  refine (HSH.out _ (Below.refl _ _)).mono ?_
  rintro e w1 ⟨rfl, hB1⟩
  have HB1 := Lib.hid hB1
  clear hB1
  go_wp2
  go_ret
  exact ⟨rfl, HB1.out⟩
end Go.Proofs.YtgllmhheahlpjaaGreatDoor
namespace Go.Proofs.YtgllmhheahlpjaaGreatDoor
open Go.RowKit Go.Lib Go.Maps Go.WideMaps Go.Proofs.YtgllmhheahlpjaaGreatDoor.Fl
def lastI (L : List (Nat × Nat)) : Nat → Int
 | 0 => -1
 | k + 1 => ((L[k]?).map fun x => (x.2 : Int)).getD (-1)
def stN (L : List (Nat × Nat)) : Nat → Nat
 | 0 => 0
 | k + 1 => ((L[k]?).map fun x => x.2).getD 0
theorem max_last (L : List (Nat × Nat)) (k : Nat) : max (lastI L k) 0 = (stN L k : Int) := by
 cases k with
 | zero => rfl
 | succ k =>
  show max (((L[k]?).map fun x => (x.2 : Int)).getD (-1)) 0 = ((((L[k]?).map fun x => x.2).getD 0 : Nat) : Int)
  cases L[k]? with
  | none => rfl
  | some x => show max (x.2 : Int) 0 = (x.2 : Int); omega
theorem lastI_at {L : List (Nat × Nat)} {k : Nat} {x : Nat × Nat} (h : L[k]? = some x) : lastI L (k + 1) = (x.2 : Int) := by
 show ((L[k]?).map fun x => (x.2 : Int)).getD (-1) = _
 rw [h]; rfl
theorem stN_at {L : List (Nat × Nat)} {k : Nat} {x : Nat × Nat} (h : L[k]? = some x) : stN L (k + 1) = x.2 := by
 show ((L[k]?).map fun x => x.2).getD 0 = _
 rw [h]; rfl
theorem between_at {n : Nat} {F : Nat → Option Nat} (hF : Bd n F) {k : Nat} {x : Nat × Nat} (hx : (allP F n)[k]? = some x) : stN (allP F n) k ≤ x.1 ∧ ∀ j, stN (allP F n) k ≤ j → j < x.1 → F j = none ∨ ((j : Int) = lastI (allP F n) k ∧ F j = some j) := by
 cases k with
 | zero =>
  have h := fst_some hF (i := x.1) (m := x.2) (all_first hx)
  exact ⟨Nat.zero_le _, fun j _ h2 => .inl (h.2.2.2.2 j (Nat.zero_le _) h2)⟩
 | succ k =>
  obtain ⟨y, hy⟩ : ∃ y, (allP F n)[k]? = some y := ⟨(allP F n)[k]'(by have := (List.getElem?_eq_some_iff.1 hx).1; omega), List.getElem?_eq_getElem _⟩
  have h := all_between hF hy hx
  have hr := all_rises hF hy hx
  rw [stN_at hy, lastI_at hy]
  refine ⟨hr.1, fun j h1 h2 => ?_⟩
  rcases h j h1 h2 with q | ⟨q1, q2⟩
  ·exact .inl q
  ·right
   exact ⟨by rw [q1], by rw [q2, q1]⟩
section
variable {p : Option Addr} {n cap : Nat} {xs : List Nd} {s : List UInt8} {w : World} {C : Nat → Cp} {F : Nat → Option Nat}
theorem between_go (hN : Nodes w p n xs) (hbd : bd7 xs s = true) (hF : FindF p n cap s w C F) (hsh : ∀ W, Below w.heap.size w W → Calls Tryz.prog 26 #[] W fun e w' => e = .returned (.bool true) ∧ Below W.heap.size W w') :
  Calls Tryz.prog 8 #[.slice p n cap, .string ⟨s.toArray⟩] w fun e w' => e = .returned (.bool true) ∧ Below w.heap.size w w' := by
 have HBD : Hid (Calls Tryz.prog 25 #[.slice p n cap, .string ⟨s.toArray⟩] w fun e w' => e = .returned (.bool true) ∧ w' = w) := Lib.hid (by have := bounded7_c p n cap xs s w hN; rw [hbd] at this; exact this)
 have HSH := Lib.hid hsh
 have HAL := Lib.hid (fun W (h : Below w.heap.size w W) => fall_c hF W h)
 have hlen := hF.len
 have HF := Lib.hid hF
 obtain ⟨N, hNL⟩ : ∃ N, N = (allP F s.length).length := ⟨_, rfl⟩
 rw [← hNL] at HAL
 have hN9 : N ≤ 1000 := by
  have h1 : ∀ f q, (goP F s.length f q).length ≤ f := fun f => by
   induction f with
   | zero => intro q; exact Nat.le_refl _
   | succ f ih => intro q; cases q with
    | none => exact Nat.zero_le _
    | some x => exact Nat.succ_le_succ (ih _)
  have := h1 (s.length + 2) (fstP F s.length 0)
  rw [hNL]; unfold allP; omega
 have HNL := Lib.hid hNL
 clear hN hbd hF hsh hNL
 go_enter Tryz.func8, Tryz.ntmps8
 go_wp2_with fail
 refine HBD.out.mono ?_
 rintro e w0 ⟨rfl, hw0⟩
 obtain rfl := hw0
 go_wp2_with fail
 refine (HSH.out _ (Below.refl _ _)).mono ?_
 rintro e w1 ⟨rfl, hB1⟩
 have HB1 := Lib.hid hB1
 clear hB1
 go_wp2_with fail
 refine (HAL.out _ HB1.out).mono ?_
 rintro e w2 ⟨⟨P, c, rfl, hC⟩, hB2⟩
 have HB2 := Lib.hid (HB1.out.trans (hB2.mono HB1.out.size))
 have HC := Lib.hid hC
 clear hB2 hC
 go_wp2
 go_loopw [4, 6, 7] (fun rv lv iv wr => rv = .bool false ∧ ∃ k : Nat, k ≤ N ∧ iv = .int .i64 (k : Int) ∧ lv = .int .i64 (lastI (allP F s.length) k) ∧ Below w2.heap.size w2 wr) (fun _ _ iv _ => N + 1 - (RowKit.intOf iv).toNat)
 case atStart => exact ⟨rfl, 0, Nat.zero_le _, rfl, rfl, Below.refl _ _⟩
 case round =>
  obtain ⟨rfl, k, hk, rfl, rfl, hBr⟩ := hrel
  have HBR := Lib.hid (And.intro hBr (HB2.out.trans (hBr.mono HB2.out.size)))
  have HCR := Lib.hid (HC.out.below hBr)
  clear hBr
  by_cases hlt : k < N
  ·have hli : (k : Int) < (N : Int) := by omega
   obtain ⟨x, hx⟩ : ∃ x, (allP F s.length)[k]? = some x := ⟨(allP F s.length)[k]'(by rw [← HNL.out]; exact hlt), List.getElem?_eq_getElem _⟩
   have hbt := between_at HF.out.bd hx
   have hml := max_last (allP F s.length) k
   obtain ⟨g, rfl, c1, x1, x2, x3⟩ := HCR.out.at0 HF.out hx
   have hlast : lastI (allP F s.length) (k + 1) = (x.2 : Int) := lastI_at hx
   obtain ⟨a, b⟩ := x
   simp only at hbt x1 x2 x3 c1 hlast
   obtain ⟨lv, hlv⟩ : ∃ lv, lv = lastI (allP F s.length) k := ⟨_, rfl⟩
   obtain ⟨st, hst⟩ : ∃ st, st = stN (allP F s.length) k := ⟨_, rfl⟩
   rw [← hlv, ← hst] at hml
   rw [← hlv, ← hst] at hbt
   rw [← hlv]
   have HFX := Lib.hid (fun w => from_at x1 (by omega) w)
   have HTX := Lib.hid (fun w => to_at x1 (by omega) w)
   have HX := Lib.hid (And.intro hx (And.intro hbt (And.intro hlast (And.intro x3 (And.intro hlv hst)))))
   have hsa : st ≤ a := hbt.1
   have HML := Lib.hid hml
   clear hx hbt hlast x3 hlv hst hml
   go_wp2_with fail
   refine (HFX.out _).mono ?_
   rintro e w3 ⟨rfl, rfl⟩
   go_wp2
   rw [HML.out]
   go_loopw [4, 9] (fun rv jv wi => rv = .bool false ∧ ∃ j : Nat, st ≤ j ∧ j ≤ a ∧ jv = .int .i64 (j : Int) ∧ Below w2.heap.size w2 wi) (fun _ jv _ => a + 1 - (RowKit.intOf jv).toNat)
   case atStart => exact ⟨rfl, st, Nat.le_refl _, hsa, rfl, HBR.out.1⟩
   case round =>
    obtain ⟨rfl, j, hj1, hj2, rfl, hBi⟩ := hrel
    have HBI := Lib.hid (And.intro hBi (HB2.out.trans (hBi.mono HB2.out.size)))
    have HCI := Lib.hid (HC.out.below hBi)
    clear hBi
    by_cases hja : j < a
    ·have hji : (j : Int) < (a : Int) := by omega
     rcases HX.out.2.1.2 j hj1 hja with hfj | ⟨hjl, hfj⟩
     ·have HL := Lib.hid (HF.out.lg j (by omega) wr HBI.out.2)
      rw [hfj, Option.isSome_none] at HL
      clear hfj
      go_wp2_with fail
      refine HL.out.mono ?_
      rintro e w4 ⟨rfl, hB4⟩
      have HB4 := Lib.hid (HBI.out.1.trans ((hB4.alloc hB4.size (.cells (cH (C j)) 27)).mono HBI.out.1.size))
      clear hB4 HL
      unfold capV
      go_wp2
      go_roundw
      case rel => exact ⟨rfl, j + 1, by omega, by omega, by go_num, HB4.out⟩
      case measure => (simp [RowKit.intOf]) <;> omega
     ·have HL := Lib.hid (HF.out.lg j (by omega) wr HBI.out.2)
      rw [hfj, Option.isSome_some] at HL
      have hc0 := HF.out.at0 j j hfj
      obtain ⟨Z, hZ⟩ : ∃ Z, Z = C j := ⟨_, rfl⟩
      rw [← hZ] at HL hc0
      have HLE : Hid (∀ w, Calls Tryz.prog 38 #[spV (Z 0)] w fun e w' => e = .returned (.int .i64 0) ∧ w' = w) := Lib.hid (fun w => by
       have := len_some j j (Nat.le_refl _) (by omega) w
       rw [hc0]
       rw [show ((j - j : Nat) : Int) = 0 by omega] at this; exact this)
      have n1 : ((j : Int) != lv) = false := by simp [hjl]
      have n2 : ((j : Int) == lv) = true := by simp [hjl]
      clear hfj hc0 hjl hZ
      go_wp2_with fail
      refine HL.out.mono ?_
      rintro e w4 ⟨rfl, hB4⟩
      have HB4 := Lib.hid (HBI.out.1.trans ((hB4.alloc hB4.size (.cells (cH Z) 27)).mono HBI.out.1.size))
      obtain ⟨z0, z1, z2, z3, z4, z5, z6, z7, z8, z9⟩ := capBlk.ten (capBlk w4 Z)
      clear hB4 HL
      unfold capV
      go_wp2_with fail
      refine (HLE.out _).mono ?_
      rintro e w6 ⟨rfl, rfl⟩
      go_wp2
      go_roundw
      case rel => exact ⟨rfl, j + 1, by omega, by omega, by go_num, HB4.out⟩
      case measure => (simp [RowKit.intOf]) <;> omega
    ·obtain rfl : j = a := by omega
     have hji : ¬ (j : Int) < (j : Int) := by omega
     have HL := Lib.hid (HF.out.lg j (by omega) wr HBI.out.2)
     rw [HX.out.2.2.2.1, Option.isSome_some] at HL
     obtain ⟨Z, hZ⟩ : ∃ Z, Z = C j := ⟨_, rfl⟩
     rw [← hZ] at HL
     have HE := Lib.hid (fun w => neq_caps Z (cap_ok (by rw [hZ]; exact HF.out.ok j) hlen) w)
     have HG := Lib.hid (fun x y w => neq_gd Z Z x y w)
     have HTZ : Hid (∀ w, Calls Tryz.prog 37 #[spV (Z 0)] w fun e w' => e = .returned (.int .i64 (b : Int)) ∧ w' = w) := Lib.hid (fun w => by rw [hZ, HF.out.at0 j b HX.out.2.2.2.1]; exact HTX.out w)
     have HZ := Lib.hid hZ
     clear hZ
     go_wp2_with fail
     refine HL.out.mono ?_
     rintro e w4 ⟨rfl, hB4⟩
     have hB5 := hB4.alloc hB4.size (.cells (cH Z) 27)
     have HB5 := Lib.hid (HBI.out.1.trans (hB5.mono HBI.out.1.size))
     obtain ⟨z0, z1, z2, z3, z4, z5, z6, z7, z8, z9⟩ := capBlk.ten (capBlk w4 Z)
     obtain ⟨g5, e5, hc4⟩ := HCI.out.below hB4 k (j, b) HX.out.1
     obtain ⟨g6, e6, hc5⟩ := HCI.out.below hB5 k (j, b) HX.out.1
     obtain rfl : g = g5 := by simpa using e5
     obtain rfl : g = g6 := by simpa using e6
     rw [show C (j, b).1 = Z from HZ.out.symm] at hc4 hc5
     have a0 : w4.cell? ⟨g, k * 10, none⟩ = some (spV (Z 0)) := hc4 0 (by omega)
     have a1 := hc4 1 (by omega); have a2 := hc4 2 (by omega); have a3 := hc4 3 (by omega); have a4 := hc4 4 (by omega); have a5 := hc4 5 (by omega); have a6 := hc4 6 (by omega); have a7 := hc4 7 (by omega); have a8 := hc4 8 (by omega); have a9 := hc4 9 (by omega)
     have b0 : (w4.alloc (.cells (cH Z) 27)).cell? ⟨g, k * 10, none⟩ = some (spV (Z 0)) := hc5 0 (by omega)
     have b1 := hc5 1 (by omega); have b2 := hc5 2 (by omega); have b3 := hc5 3 (by omega); have b4 := hc5 4 (by omega); have b5 := hc5 5 (by omega); have b6 := hc5 6 (by omega); have b7 := hc5 7 (by omega); have b8 := hc5 8 (by omega); have b9 := hc5 9 (by omega)
     have HC0 : Hid (∀ m, ((w4.alloc (.cells (cH Z) 27)).drewN m).cell? ⟨g, k * 10, none⟩ = some (spV (Z 0))) := Lib.hid (fun m => b0)
     clear hB4 HL e5 e6 hc4 hc5 hB5
     have he := HE.out
     have hg := HG.out
     unfold capV
     unfold capV at he hg
     go_wp2_with fail
     go_quiet (fail)
     go_wp2_with fail
     refine (HTZ.out _).mono ?_
     rintro e w6 ⟨rfl, rfl⟩
     go_wp2
     go_roundw
     case rel => exact ⟨rfl, k + 1, by omega, by go_num, by rw [HX.out.2.2.1], Go.below_drewN HB5.out _⟩
     case measure => (simp [RowKit.intOf]) <;> omega
  ·have hli : ¬ (k : Int) < (N : Int) := by omega
   go_wp2
   go_ret
   exact ⟨rfl, HBR.out.2⟩
end
theorem findBetweenB (p : Option Addr) (n cap : Nat) (xs : List Nd) (t : ByteArray) (w : World) (hN : Nodes w p n xs) (hs : t.size ≤ reachBytes) (hf : Fit4 w) :
  Calls Tryz.prog 8 #[.slice p n cap, .string t] w fun e w' => e = .returned (.bool true) ∧ Below w.heap.size w w' := by
 obtain ⟨s, rfl⟩ : ∃ s : List UInt8, t = ⟨s.toArray⟩ := ⟨t.data.toList, by simp⟩
 have hsh : ∀ W, Below w.heap.size w W → Calls Tryz.prog 26 #[] W fun e w' => e = .returned (.bool true) ∧ Below W.heap.size W w' := fun W hB => shown7_c W (hf.below hB) (hf.below hB).f.fit.tab (hf.below hB).f.fit.pos
 cases hbd : bd7 xs s with
 | true =>
  obtain ⟨C, F, hF⟩ := find_calls (cap := cap) (s := s) hN hbd hf.f.fit.tab hf.f.fit.pos
  exact between_go hN hbd hF hsh
 | false =>
  have HBD : Hid (Calls Tryz.prog 25 #[.slice p n cap, .string ⟨s.toArray⟩] w fun e w' => e = .returned (.bool false) ∧ w' = w) := Lib.hid (by have := bounded7_c p n cap xs s w hN; rw [hbd] at this; exact this)
  have HSH := Lib.hid hsh
  clear hN hbd hsh hf hs
  go_enter Tryz.func8, Tryz.ntmps8
  go_wp2_with fail
  refine HBD.out.mono ?_
  rintro e w0 ⟨rfl, hw0⟩
  obtain rfl := hw0
  go_wp2_with fail
  refine (HSH.out _ (Below.refl _ _)).mono ?_
  rintro e w1 ⟨rfl, hB1⟩
  have HB1 := Lib.hid hB1
  clear hB1
  go_wp2
  go_ret
  exact ⟨rfl, HB1.out⟩
end Go.Proofs.YtgllmhheahlpjaaGreatDoor
