/- The reference's Whole, Longest, Group; what the laws call, of both sides. -/
import Derived.Test.YtjgegohidhdbpaaGreatDoorJMeP
import Derived.Test.YtjgegohidhdbpaaGreatDoorJMdQ
import Derived.Test.YtjgegohidhdbpaaGreatDoorJMaJ
import Derived.RangeFuncNested
import Derived.RangeFuncBound
import Derived.RangeFuncCalls
import Derived.RangeFuncLeaves
import Derived.RangeFuncBox
import Derived.Shelf.Abstract
import Derived.Shelf.RegionOpen
import Derived.OwnWalkIn
import Derived.TacticsInMore
import Derived.LoopNIn
import Derived.LoopIn
import Derived.Maps.AppendAt
import Derived.Test.YtjgegohidhdbpaaGreatDoorJMdF
import Derived.Deep.QuietTactic
import Derived.BigQuiet
import Derived.Test.YtjgegohidhdbpaaGreatDoorJMcQ
import Derived.ChangeKeysEq
open Go.Proofs.Tryz
set_option linter.unusedVariables false
set_option linter.unusedSimpArgs false
set_option maxRecDepth 100000
set_option maxHeartbeats 40000000
namespace Go.Proofs.YtjgegohidhdbpaaGreatDoor
open Go.RowKit Go.Proofs.YtjgegohidhdbpaaGreatDoor.Fl
def Pat? (xs : List Nd) (ot : Option T) : Prop := (∀ t, ot = some t → qN xs t) ∧ (ot = none → ¬ ∃ t, qN xs t)
theorem qij (xs : List Nd) : ∃ ot, Pat? xs ot := by
 by_cases h : ∃ t, qN xs t
 ·obtain ⟨t, ht⟩ := h
  exact ⟨some t, (fun t' e => by cases e; exact ht), (fun e => by cases e)⟩
 ·exact ⟨none, (fun t e => by cases e), fun _ => h⟩
theorem qfI (s : List UInt8) (t : T) (a b : Nat) (ha : a ≤ s.length) (hb : b ≤ s.length) : V5 s (some t) a b = (whC s t a b, Wq s t a b) := by
 unfold V5
 by_cases h : a ≤ b
 ·simp only
  rw [if_pos ⟨by omega, by omega, by omega⟩]
  rfl
 ·simp only
  rw [if_neg (by omega)]
  have : Wq s t a b = false := by unfold Wq; rw [decide_eq_false h, Bool.false_and]
  unfold whC
  rw [this, if_neg (by simp)]
theorem qfJ (s : List UInt8) (t : T) (i j : Int) (h : ¬ ((0 ≤ i ∧ i ≤ (s.length : Int)) ∧ (0 ≤ j ∧ j ≤ (s.length : Int)))) : V5 s (some t) i j = (kY, false) := by
 unfold V5
 simp only
 rw [if_neg (by omega)]
theorem qfK {s : List UInt8} {xs : List Nd} {ot : Option T} (h : Pat? xs ot) (i j : Int) : qo s.length (V5 s ot i j).1 := by
 cases ot with
 | none => exact qo.none
 | some t =>
  unfold V5
  simp only
  split
  ·rename_i kh
   show qo s.length (whC s t i.toNat j.toNat)
   unfold whC
   split
   ·have hS := zw s t (vp t (h.1 t rfl).1).1
    intro g a b e
    unfold jO at e
    split at e
    ·cases e; omega
    ·exact hS.leave_cap qo.none (by omega) (by omega) g a b e
   ·exact qo.none
  ·exact qo.none
section
variable {p : Option Addr} {n cap : Nat} {xs : List Nd} {s : List UInt8} {w : World} {ot : Option T}
theorem Wr (hP : Pat? xs ot) (hN : kS w p n xs) (hb : bdR xs s = true) (hT : TabAt 0 Lib.deBruijn64tab w) (h0 : 0 < w.heap.size) (i j : Int) (W : World) (hB : Below w.heap.size w W) :
  Calls prog 9 #[.slice p n cap, .string ⟨s.toArray⟩, .int .i64 i, .int .i64 j] W fun e w' => e = .returned (.tuple #[qk (V5 s ot i j).1, .bool (V5 s ot i j).2]) ∧ Below W.heap.size W w' := by
 have hl := qcR hb
 cases ot with
 | none =>
  have hp := hP.2 rfl
  exact V6 (.slice p n cap) false s i j (fun h => (by cases h)) W (fun W' hB' => qcg p n cap xs false ⟨fun h => (by cases h), fun h => absurd h hp⟩ W' (hN.below (hB.trans (hB'.mono hB.size))))
 | some t =>
  have hp := hP.1 t rfl
  by_cases kh : (0 ≤ i ∧ i ≤ (s.length : Int)) ∧ (0 ≤ j ∧ j ≤ (s.length : Int))
  ·obtain ⟨a, rfl⟩ : ∃ a : Nat, i = a := ⟨i.toNat, by omega⟩
   obtain ⟨c, rfl⟩ : ∃ c : Nat, j = c := ⟨j.toNat, by omega⟩
   have hn : 1 ≤ n := by
    have h3 := hp.2.2.1
    have := t.size_pos
    have := hN.len
    omega
   obtain ⟨b, o, rfl⟩ := hN.ptr hn
   have hx := hN.at' hn b o rfl
   obtain rfl := hN.len
   rw [qfI s t a c (by omega) (by omega)]
   exact qfL b o cap s xs t hp hN.fits (by omega) (qik hb hp) a c (by omega) (by omega) W (hx.below hB hx.lt) (jP hT hB h0) (Nat.lt_of_lt_of_le h0 hB.size)
  ·rw [qfJ s t i j kh]
   exact V6 (.slice p n cap) true s i j (fun _ => kh) W (fun W' hB' => qcg p n cap xs true ⟨fun h => ⟨t, hp⟩, fun h => rfl⟩ W' (hN.below (hB.trans (hB'.mono hB.size))))
theorem qcS (hP : Pat? xs ot) (hN : kS w p n xs) (hs : s.length ≤ 90) (i j : Int) :
  Calls prog 10 #[.slice p n cap, .string ⟨s.toArray⟩, .int .i64 i, .int .i64 j] w fun e w' => e = .returned (.tuple #[qk (V5 s ot i j).1, .bool (V5 s ot i j).2]) ∧ Below w.heap.size w w' := by
 obtain ⟨C, hC⟩ : ∃ C, C = (V5 s ot i j).1 := ⟨_, rfl⟩
 obtain ⟨R, hR⟩ : ∃ R, R = (V5 s ot i j).2 := ⟨_, rfl⟩
 rw [← hC, ← hR]
 have qr : Below w.heap.size w (w.alloc (.cells cZ 30)) := (Below.refl _ w).alloc (Nat.le_refl _) _
 have hv := qm.new w 10 30 (fun _ => .complex .f64 0 0)
 have HM := ξ (qil p n cap xs s _ (hN.below qr) hs ot hP.1 hP.2)
 have vm := ξ (ζ qr hv)
 have HCR := ξ (ζ hC hR)
 clear hC hR qr hv hP hN
 go_enter func10, ntmps10
 go_wp2_with fail
 refine HM.out.mono ?_
 rintro e w1 ⟨⟨v, m, rfl, hT, hm⟩, hB⟩
 have qh := hT.call w1 (Below.refl _ _) i j
 rw [← HCR.out.1, ← HCR.out.2] at qh
 have jk := ξ hB
 have HC2 := ξ qh
 clear qh hT hm hB
 go_wp2_with fail
 refine HC2.out.mono ?_
 rintro e w2 ⟨rfl, qQ⟩
 unfold qk
 have vU := jk.out.trans (qQ.mono jk.out.size)
 have hr := vm.out.2.below vU (by simp)
 have r_ := hr.rf10
 have za := ξ (qV hr C)
 have qE := ξ ((vm.out.1.trans (vU.mono vm.out.1.size)).trans ((kn (w := w2) (b := w.heap.size) C).below (by have := hr.lt; omega) (fun i e => by subst e; exact Nat.le_refl _)))
 clear qQ vU hr
 go_wp2
 refine bodyPost_ret (v := .tuple #[.agg (cH C), .bool R]) (by simp [results, results10, go_sem, za.out]) rfl ?_
 exact ⟨rfl, qE.out⟩
end
theorem qcT (s : List UInt8) (hs : s.length ≤ 300) (c : Cp) (hc : qo s.length c) (n : Int) (w : World) :
  Calls prog 13 #[.string ⟨s.toArray⟩, qk c, .int .i64 n] w fun e w' => e = .returned (.string ⟨(if 0 ≤ n ∧ n ≤ 9 then ZW s (c n.toNat) else []).toArray⟩) ∧ Below w.heap.size w w' := by
 have qr : Below w.heap.size w (w.alloc (.cells (cH c) 30)) := (Below.refl _ w).alloc (Nat.le_refl _) _
 have hv : qm (w.alloc (.cells (cH c) 30)) w.heap.size 10 30 (fun g => qj (c g)) := qm.new w 10 30 (fun g => qj (c g))
 have kR : (⟨s.toArray⟩ : ByteArray).size = s.length := by simp [ByteArray.size]
 unfold qk
 by_cases h0 : 0 ≤ n ∧ n ≤ 9
 ·rw [if_pos h0]
  obtain ⟨k, rfl⟩ : ∃ k : Nat, n = k := ⟨n.toNat, by omega⟩
  have hk : (k : Int) < 10 := by omega
  have qH : ¬ (k : Int) < 0 := by omega
  have zl : ¬ 9 < (k : Int) := by omega
  have XH := hv.cell k (by omega)
  rw [Int.toNat_natCast]
  have VX : ∀ W, Calls prog 39 #[.string ⟨s.toArray⟩, qj (c k)] W fun e w' => e = .returned (.string ⟨(ZW s (c k)).toArray⟩) ∧ w' = W := fun W => by
   cases hq : c k with
   | none =>
    refine (qfM ⟨s.toArray⟩ _ _ W (by rw [kR]; exact hs) (by unfold sp; rw [yR]; rfl)).mono ?_
    rintro e w' ⟨h1, h2⟩
    exact ⟨h1, h2.symm⟩
   | some q =>
    obtain ⟨a, b⟩ := q
    have h12 := hc k a b hq
    exact qaa s hs a b h12.1 h12.2 W
  obtain ⟨A, hA⟩ : ∃ A : ByteArray, A = ⟨(ZW s (c k)).toArray⟩ := ⟨_, rfl⟩
  rw [← hA] at VX ⊢
  obtain ⟨y, hy⟩ : ∃ y, y = qj (c k) := ⟨_, rfl⟩
  rw [← hy] at VX
  rw [← hy] at XH
  have HCT := ξ VX
  have vm := ξ qr
  clear VX qr hA hy hv h0
  go_enter func13, ntmps13
  go_upto_region 1 with fail
  generalize (w.alloc (.cells (cH c) 30)) = W1 at vm XH ⊢
  go_wp2_with fail
  refine (HCT.out _).mono ?_
  rintro e w' ⟨rfl, hw'⟩
  obtain rfl := hw'
  go_wp2
  go_ret
  exact ⟨rfl, vm.out⟩
 ·rw [if_neg h0]
  have vm := ξ qr
  by_cases h1 : n < 0
  ·clear qr h0 hv
   go_enter func13, ntmps13
   go_wp2
   go_ret
   exact ⟨rfl, vm.out⟩
  ·have h2 : 9 < n := by omega
   clear qr h0 hv
   go_enter func13, ntmps13
   go_wp2
   go_ret
   exact ⟨rfl, vm.out⟩
end Go.Proofs.YtjgegohidhdbpaaGreatDoor
namespace Go.Proofs.YtjgegohidhdbpaaGreatDoor
open Go.RowKit Go.Lib
def least (f : Nat → Bool) : Nat → Nat → Option Nat
 | 0, _ => none
 | d + 1, k => if f k = true then some k else least f d (k + 1)
end Go.Proofs.YtjgegohidhdbpaaGreatDoor
namespace Go.Proofs.YtjgegohidhdbpaaGreatDoor
open Go.RowKit Go.Shelf
attribute [local go_sem] Oper.semAt_some
def KB (n₀ Bl Bt β : Nat) (X Y : World) : Prop := Below n₀ X Y ∧ Y.heap[Bl]? = X.heap[Bl]? ∧ Y.heap[Bt]? = X.heap[Bt]? ∧ Y.heap[β]? = X.heap[β]?
theorem KB.trans {n₀ Bl Bt β : Nat} {X Y Z : World} (h : KB n₀ Bl Bt β X Y) (k : KB n₀ Bl Bt β Y Z) : KB n₀ Bl Bt β X Z :=
 ⟨h.1.trans k.1, k.2.1.trans h.2.1, k.2.2.1.trans h.2.2.1, k.2.2.2.trans h.2.2.2⟩
section
variable {p : Option Addr} {n cap : Nat} {s : List UInt8} {w : World} {C : Nat → Cp} {F : Nat → Option Nat}
end
end Go.Proofs.YtjgegohidhdbpaaGreatDoor
namespace Go.Proofs.YtjgegohidhdbpaaGreatDoor
open Go.RowKit Go.Lib Go.Maps Go.WideMaps
def s7 : List UInt8 := [98, 97, 97, 97, 99]
end Go.Proofs.YtjgegohidhdbpaaGreatDoor
namespace Go.Proofs.YtjgegohidhdbpaaGreatDoor
open Go.RowKit Go.Lib Go.Proofs.YtjgegohidhdbpaaGreatDoor.Fl
theorem qin : ∃ i, Tryz.prog.info? 25 = some i := info_of_underlying underlying25
theorem qkI : Tryz.prog.cellsOf 25 = 1 := by kernel_rfl
theorem qcU (d : Nat) (o : Option (Nat × Nat)) (ho : ∀ a b, o = some (a, b) → a ≤ 999999999 ∧ b ≤ 999999999) (w : World) : (Op.equalIn (d + 1) 25 (qj o) (qj o)).run prog w = .ok true w := by
 cases o with
 | none =>
  have o1 : Ieee.double.order qf qf = some Ordering.eq := by decide +kernel
  simp only [qj]
  simp [Op.equalIn, run_underlying underlying25, Op.floatEq, show FloatKind.f64.format = Ieee.double from rfl, o1]
 | some x =>
  obtain ⟨a, b⟩ := x
  obtain ⟨h1, h2⟩ := ho a b rfl
  have hv : ∀ a : Nat, a ≤ 999999999 → val (floatOfInt .f64 (a : Int)) = some (a : Int) := fun a h => zX (by have : (2 : Nat) ^ 53 = 9007199254740992 := rfl; omega)
  have o1 := KE (hv a h1) (hv a h1)
  have o2 := KE (hv b h2) (hv b h2)
  rw [Y6] at o1 o2
  simp only [qj]
  simp [Op.equalIn, run_underlying underlying25, Op.floatEq, show FloatKind.f64.format = Ieee.double from rfl, o1, o2]
theorem KY (d : Nat) (A : Cp) (hA : ∀ g a b, A g = some (a, b) → a ≤ 999999999 ∧ b ≤ 999999999) (w : World) : ∀ is : List Nat, (∀ i ∈ is, i < 10) → (Op.eqItems (d + 1) 25 1 (cH A) (cH A) is).run prog w = .ok true w
 | [], _ => by simp [Op.eqItems]
 | i :: is, h => by
  have hi : i < 10 := h i (by simp)
  have hv : (cH A)[i]? = some (qj (A i)) := by
   rcases (by omega : i = 0 ∨ i = 1 ∨ i = 2 ∨ i = 3 ∨ i = 4 ∨ i = 5 ∨ i = 6 ∨ i = 7 ∨ i = 8 ∨ i = 9) with rfl | rfl | rfl | rfl | rfl | rfl | rfl | rfl | rfl | rfl <;> rfl
  have hp : (Go.part 25 (cH A) i).run prog w = .ok (qj (A i)) w := by simp [Go.part, isAgg, run_underlying underlying25, hv]
  have ih := KY d A hA w is (fun j hj => h j (by simp [hj]))
  simp only [Op.eqItems, Nat.mul_one, Sem.run_bind, hp, Result.andThen_ok, qcU d (A i) (fun a b e => hA i a b e) w]
  simpa using ih
theorem qab (A : Cp) (hA : ∀ g a b, A g = some (a, b) → a ≤ 999999999 ∧ b ≤ 999999999) (w : World) : (binOp .eql 27 (qk A) (qk A)).run prog w = .ok (.bool true) w := by
 obtain ⟨i, hi⟩ := qin
 have h : (Op.equalIn 10000 27 (.agg (cH A)) (.agg (cH A))).run prog w = .ok true w := by
  rw [show (10000 : Nat) = 9999 + 1 from rfl, run_equalIn_array w 9999 (cH A) (cH A) underlying27 hi, qkI]
  exact KY 9998 A hA w _ (fun j hj => by simpa using hj)
 show (binOp .eql 27 (.agg (cH A)) (.agg (cH A))).run prog w = _
 simp only [binOp]
 simp [Op.equal, show Op.maxDepth = 10000 from rfl, h, asBool]
theorem qhb (A B : Cp) (x y : Operand) (w : World) : (eqGuard .eql 27 x y (qk A) (qk B)).run prog w = .ok () w := by
 unfold qk
 simp [eqGuard]
end Go.Proofs.YtjgegohidhdbpaaGreatDoor
namespace Go.Proofs.YtjgegohidhdbpaaGreatDoor
open Go.RowKit
theorem qcV (p : Option Addr) (n cap : Nat) (xs : List Nd) (s : List UInt8) (i j k : Int) (w : World) (hN : kS w p n xs) (hl : s.length ≤ 9) (h24 : xs.length ≤ 24) (hbd : bdR xs s = true) (ot : Option T) (hP : Pat? xs ot)
  (hWh : ∀ W, Below w.heap.size w W → Calls prog 9 #[.slice p n cap, .string ⟨s.toArray⟩, .int .i64 i, .int .i64 j] W fun e w' => e = .returned (.tuple #[qk (V5 s ot i j).1, .bool (V5 s ot i j).2]) ∧ Below W.heap.size W w')
  (hsh : ∀ W, Below w.heap.size w W → Calls prog 8 #[] W fun e w' => e = .returned (.bool true) ∧ Below W.heap.size W w') :
  Calls prog 3 #[.slice p n cap, .string ⟨s.toArray⟩, .int .i64 i, .int .i64 j, .int .i64 k] w fun e w' => e = .returned (.bool true) ∧ Below w.heap.size w w' := by
 have hca := qfK (s := s) hP i j
 have HN := ξ hN
 have HBD : Hid (Calls prog 7 #[.slice p n cap, .string ⟨s.toArray⟩] w fun e w' => e = .returned (.bool true) ∧ w' = w) := ξ (by have := V7 p n cap xs s w hN; rw [hbd] at this; exact this)
 have HSH := ξ hsh
 obtain ⟨C, hC⟩ : ∃ C, C = (V5 s ot i j).1 := ⟨_, rfl⟩
 obtain ⟨R, hR⟩ : ∃ R, R = (V5 s ot i j).2 := ⟨_, rfl⟩
 rw [← hC] at hca
 rw [← hC, ← hR] at hWh
 have HWH := ξ hWh
 have HEQ := ξ (ζ (fun W => qab C (fun g a b e => by have := hca g a b e; omega) W) (fun x y W => qhb C C x y W))
 have qio := ξ (ζ (fun W => qab kY (fun g a b e => by cases e) W) (fun x y W => qhb kY kY x y W))
 have HRW : Hid (∀ (W : World) (p' : Option Addr) (cap' : Nat), kS W p' n xs → Calls prog 10 #[.slice p' n cap', .string ⟨s.toArray⟩, .int .i64 i, .int .i64 j] W fun e w' => e = .returned (.tuple #[qk C, .bool R]) ∧ Below W.heap.size W w') := ξ (fun W p' cap' hW => by
  have := qcS (cap := cap') hP hW (by omega : s.length ≤ 90) i j
  rw [← hC, ← hR] at this
  exact this)
 obtain ⟨A, hA⟩ : ∃ A : ByteArray, A = ⟨(if 0 ≤ k ∧ k ≤ 9 then ZW s (C k.toNat) else []).toArray⟩ := ⟨_, rfl⟩
 have HG1 : Hid (∀ W, Calls prog 12 #[.string ⟨s.toArray⟩, qk C, .int .i64 k] W fun e w' => e = .returned (.string A) ∧ Below W.heap.size W w') := ξ (fun W => by rw [hA]; exact JF s (by omega) C hca k W)
 have Zk : Hid (∀ W, Calls prog 13 #[.string ⟨s.toArray⟩, qk C, .int .i64 k] W fun e w' => e = .returned (.string A) ∧ Below W.heap.size W w') := ξ (fun W => by rw [hA]; exact qcT s (by omega) C hca k W)
 have HNP : Hid (∀ W, Calls prog 14 #[] W fun e w' => e = .returned (qk kY) ∧ Below W.heap.size W w') := ξ (fun W => yS W)
 have HNR : Hid (∀ W, Calls prog 15 #[] W fun e w' => e = .returned (qk kY) ∧ Below W.heap.size W w') := ξ (fun W => Y7 W)
 have rr : (R == R) = true := by simp
 have aa : (A.toList == A.toList) = true := by simp
 clear hN hbd hsh hWh hca hC hR hA hP
 unfold qk at HWH HRW HEQ qio HG1 Zk
 go_enter func3, ntmps3
 go_wp2_with fail
 refine HBD.out.mono ?_
 rintro e w0 ⟨rfl, hw0⟩
 obtain rfl := hw0
 go_wp2_with fail
 refine (HSH.out _ (Below.refl _ _)).mono ?_
 rintro e w1 ⟨rfl, qr⟩
 have vm := ξ qr
 clear qr HSH
 go_wp2_with fail
 refine (HWH.out _ vm.out).mono ?_
 rintro e w2 ⟨rfl, zj⟩
 have qiq := vm.out.trans (zj.mono vm.out.size)
 have jk := ξ (qiq.alloc qiq.size (.cells (cH C) 27))
 have HA := ξ (qm.new w2 10 27 (fun g => qj (C g)))
 clear zj qiq HWH vm
 go_wp2_with fail
 refine (qir p n cap xs (by have := HN.out.len; omega) _ (HN.out.below jk.out)).mono ?_
 rintro e wi1 ⟨⟨_, rfl, qv⟩, hBi⟩
 obtain ⟨p1, cap1, rfl, hN1⟩ := Ws qv HN.out.len (by have := HN.out.len; omega) HN.out.fits
 have HI1 := ξ (ζ hN1 hBi)
 have HBI1 := ξ ((jk.out).trans (hBi.mono (jk.out).size))
 clear qv hBi hN1
 go_wp2_with fail
 refine (HRW.out _ _ _ HI1.out.1).mono ?_
 rintro e w4 ⟨rfl, vU⟩
 have qis := vU.alloc vU.size (.cells (cH C) 30)
 have Y8 := ξ (HBI1.out.trans (qis.mono HBI1.out.size))
 have HA5 := ξ ((HA.out.below HI1.out.2 HA.out.lt).below qis (HA.out.below HI1.out.2 HA.out.lt).lt)
 have HC5 : Hid (qm (w4.alloc (.cells (cH C) 30)) w4.heap.size 10 30 (fun g => qj (C g))) := ξ (qm.new w4 10 30 (fun g => qj (C g)))
 clear vU qis HRW
 go_upto_region 5 with fail
 generalize (w4.alloc (.cells (cH C) 30)) = W5 at Y8 HA5 HC5 ⊢
 refine wp_region_noPanic ?_
 refine wp_region_held_drew (S := fun w' => qm w' w2.heap.size 10 27 (fun g => qj (C g)) ∧ qm w' w4.heap.size 10 30 (fun g => qj (C g)) ∧ Below w0.heap.size w0 w') (by kernel_rfl) ?_ (fun qe => ?_)
 ·(try dsimp only); exact ⟨HA5.out.drew, HC5.out.drew, Y8.out.drew⟩
 refine tq 0 ?_ (hy := by (intro wq qi; obtain ⟨sa, sb, sc⟩ := qi; have a_ := sa.ten; go_simp); (try rfl))
 refine tq 1 ?_ (hy := by (intro wq qi; obtain ⟨sa, sb, sc⟩ := qi; have b_ := sb.ten; go_simp); (try rfl))
 refine tq 2 ?_ (hy := by (intro wq qi; have heq := HEQ.out.1; have hgd := HEQ.out.2; go_simp); (try rfl))
 refine tq 3 ?_
 refine tq 4 ?_
 refine tq 5 ?_
 refine tq 6 ?_
 refine tq 7 ?_
 refine tq 8 ?_
 refine tq 9 ?_
 refine tq 10 ?_ (hy := by (intro wq qi; obtain ⟨sa, sb, sc⟩ := qi; have a_ := sa.ten; go_simp); (try rfl))
 refine tq 11 ?_
 refine tq 13 ?_
 refine tq 14 ?_ (hy := by (intro wq qi; obtain ⟨sa, sb, sc⟩ := qi; have b_ := sb.ten; go_simp); (try rfl))
 refine tq 15 ?_
 refine zU 12 fun K hK => ?_
 go_simp
 obtain ⟨sa, sb, sc⟩ := qe
 refine (HG1.out _).mono ?_
 rintro e wn ⟨rfl, jG⟩
 (try unfold qk)
 refine hK.out _ _ ?_ (fun qe => ?_)
 ·(try dsimp only); exact ⟨sa.below jG sa.lt, sb.below jG sb.lt, sc.trans (jG.mono sc.size)⟩
 clear hK K sa sb sc jG
 (try simp only [Act.put, zm])
 refine zU 16 fun K hK => ?_
 go_simp
 obtain ⟨sa, sb, sc⟩ := qe
 refine (Zk.out _).mono ?_
 rintro e wn ⟨rfl, jG⟩
 (try unfold qk)
 refine hK.out _ _ ?_ (fun qe => ?_)
 ·(try dsimp only); exact ⟨sa.below jG sa.lt, sb.below jG sb.lt, sc.trans (jG.mono sc.size)⟩
 clear hK K sa sb sc jG
 (try simp only [Act.put, zm])
 refine tq 17 ?_
 refine tq 18 ?_
 refine tq 19 ?_
 refine zU 20 fun K hK => ?_
 go_simp
 obtain ⟨sa, sb, sc⟩ := qe
 refine (HNP.out _).mono ?_
 rintro e wn ⟨rfl, jG⟩
 (try unfold qk)
 refine hK.out _ _ ?_ (fun qe => ?_)
 ·(try dsimp only); exact ⟨sa.below jG sa.lt, sb.below jG sb.lt, sc.trans (jG.mono sc.size)⟩
 clear hK K sa sb sc jG
 (try simp only [Act.put, zm])
 refine zU 21 fun K hK => ?_
 go_simp
 obtain ⟨sa, sb, sc⟩ := qe
 refine (HNR.out _).mono ?_
 rintro e wn ⟨rfl, jG⟩
 (try unfold qk)
 refine hK.out _ _ ?_ (fun qe => ?_)
 ·(try dsimp only); exact ⟨sa.below jG sa.lt, sb.below jG sb.lt, sc.trans (jG.mono sc.size)⟩
 clear hK K sa sb sc jG
 (try simp only [Act.put, zm])
 refine tq 22 ?_ (hy := by (intro wq qi; have heq := qio.out.1; have hgd := qio.out.2; go_simp); (try rfl))
 refine tq 23 ?_
 refine tq 24 ?_
 refine wpAnyH_done (by kernel_rfl) ?_ _
 refine NoPanic.normal ?_
 have qE := ξ qe.2.2
 clear qe
 go_wp2
 go_ret
 exact ⟨rfl, qE.out⟩
theorem XU (p : Option Addr) (n cap : Nat) (xs : List Nd) (t : ByteArray) (i j k : Int) (w : World) (hN : kS w p n xs) (hs : t.size ≤ reachBytes) (hi : -9223372036854775808 ≤ i ∧ i ≤ 9223372036854775807) (hj : -9223372036854775808 ≤ j ∧ j ≤ 9223372036854775807) (hk : -9223372036854775808 ≤ k ∧ k ≤ 9223372036854775807) (hf : Jt w) :
  Calls prog 3 #[.slice p n cap, .string t, .int .i64 i, .int .i64 j, .int .i64 k] w fun e w' => e = .returned (.bool true) ∧ Below w.heap.size w w' := by
 obtain ⟨s, rfl⟩ : ∃ s : List UInt8, t = ⟨s.toArray⟩ := ⟨t.data.toList, by simp⟩
 have hsh : ∀ W, Below w.heap.size w W → Calls prog 8 #[] W fun e w' => e = .returned (.bool true) ∧ Below W.heap.size W w' := fun W hB => qcX W (hf.below hB) (hf.below hB).f.fit.tab (hf.below hB).f.fit.pos
 cases hbd : bdR xs s with
 | true =>
  obtain ⟨ot, hP⟩ := qij xs
  have hl := qcR hbd
  exact qcV p n cap xs s i j k w hN hl.2 hl.1 hbd ot hP (fun W hB => Wr hP hN hbd hf.f.fit.tab hf.f.fit.pos i j W hB) hsh
 | false =>
  have HBD : Hid (Calls prog 7 #[.slice p n cap, .string ⟨s.toArray⟩] w fun e w' => e = .returned (.bool false) ∧ w' = w) := ξ (by have := V7 p n cap xs s w hN; rw [hbd] at this; exact this)
  have HSH := ξ hsh
  clear hN hbd hsh hf hs
  go_enter func3, ntmps3
  go_wp2_with fail
  refine HBD.out.mono ?_
  rintro e w0 ⟨rfl, hw0⟩
  obtain rfl := hw0
  go_wp2_with fail
  refine (HSH.out _ (Below.refl _ _)).mono ?_
  rintro e w1 ⟨rfl, qr⟩
  have vm := ξ qr
  clear qr
  go_wp2
  go_ret
  exact ⟨rfl, vm.out⟩
end Go.Proofs.YtjgegohidhdbpaaGreatDoor
