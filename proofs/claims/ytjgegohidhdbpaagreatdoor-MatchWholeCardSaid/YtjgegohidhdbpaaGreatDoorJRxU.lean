/- The contracts of Of and Range. -/
import Derived.Test.YtjgegohidhdbpaaGreatDoorJRxA
import Derived.Deep.RegionWith
import Derived.RangeFuncNested
import Derived.RangeFuncBound
import Derived.RangeFuncCalls
import Derived.RangeFuncLeaves
import Derived.RangeFuncBox
import Derived.Shelf.Abstract
import Derived.Shelf.RegionOpen
import Derived.OwnWalkIn
import Derived.TacticsInMore
import Derived.LoopNIn
import Derived.LoopIn
import Derived.Maps.AppendAt
import Derived.Laws.BytesArg
import Derived.Deep.RegionHeld3
import Derived.ChangeKeysEq
import Derived.Test.YtjgegohidhdbpaaGreatDoorJRxG
import Derived.Laws.EntriesVeiled
import Derived.Lib.ItoaNum
open Go.Proofs.Tryz
set_option linter.unusedVariables false
set_option linter.unusedSimpArgs false
set_option maxRecDepth 100000
set_option maxHeartbeats 40000000
namespace Go.Proofs.YtjgegohidhdbpaaGreatDoor
open Go.RowKit
def Uq (s : ByteArray) (n i : Nat) : Bool := (s.data.toList.take n).any fun x => x.toNat == i
theorem qcs (s : ByteArray) (n i : Nat) (h : n < s.size) : Uq s (n + 1) i = (Uq s n i || i == s[n].toNat) := by
 unfold Uq
 have h' : n < s.data.toList.length := by simpa using h
 rw [List.take_add_one, List.getElem?_eq_getElem h']
 simp only [Option.toList_some, List.any_append, List.any_cons, List.any_nil, Bool.or_false]
 have e : s[n] = s.data.toList[n] := rfl
 rw [e]
 generalize s.data.toList[n].toNat = x
 have e2 : (x == i) = (i == x) := by rw [Bool.eq_iff_iff, beq_iff_eq, beq_iff_eq]; exact eq_comm
 rw [e2]
theorem of_c (s : ByteArray) (hs : s.size < 9223372036854775807) (w : World) :
  Calls prog 85 #[.string s] w fun e w' => e = .returned (sv (Uq s s.size)) ∧ Below w.heap.size w w' := by
 go_enter func85, ntmps85
 go_wp2
 go_loopw [7] (fun i wr => ∃ k : Nat, k ≤ s.size ∧ i = .int .i64 k ∧ j0 wr w.heap.size (fun _ => false) ∧ j0 wr (w.heap.size + 1) (Uq s k) ∧ Below w.heap.size w wr)
  (fun i _ => s.size - (RowKit.intOf i).toNat)
 case atStart =>
  refine ⟨0, by omega, rfl, ?_, ?_, ?_⟩
  ·exact j0.zero ((Four.new w _ _ _ _ _).alloc _) (fun _ _ => rfl)
  ·refine j0.zero ?_ (fun i _ => by simp [Uq])
   have := Four.new (w.alloc (.cells #[.int .u64 0, .int .u64 0, .int .u64 0, .int .u64 0] 55)) 55 (.int .u64 0) (.int .u64 0) (.int .u64 0) (.int .u64 0)
   rwa [World.size_alloc] at this
  ·exact ((Below.refl _ w).alloc (Nat.le_refl _) _).alloc (by simp) _
 case round =>
  obtain ⟨k, hk, rfl, h0, h1, hB⟩ := hrel
  have h0c0 := h0.c0
  have h0c1 := h0.c1
  have h0c2 := h0.c2
  have h0c3 := h0.c3
  have h0f0 := h0.fz 0
  have h0f1 := h0.fz 1
  have h0f2 := h0.fz 2
  have h0f3 := h0.fz 3
  have h1c0 := h1.c0
  have h1c1 := h1.c1
  have h1c2 := h1.c2
  have h1c3 := h1.c3
  have h1f0 := h1.fz 0
  have h1f1 := h1.fz 1
  have h1f2 := h1.fz 2
  have h1f3 := h1.fz 3
  by_cases zb : k < s.size
  ·have ZM := s[k].toNat_lt
   go_wp2_with fail
   go_region_with (go_at_call 115; refine (qhT _ _ ZM _).mono ?_; rintro e w1 ⟨rfl, qr⟩; have zj : Below wr.heap.size wr w1 := ((Below.refl _ wr).drew).trans qr; have g1 := h1.below zj h1.lt; have g0 := h0.below zj h0.lt; have g1c0 := g1.c0; have g1c1 := g1.c1; have g1c2 := g1.c2; have g1c3 := g1.c3; have g1f0 := g1.fz 0; have g1f1 := g1.fz 1; have g1f2 := g1.fz 2; have g1f3 := g1.fz 3; simp only [sv])
   all_goals (
    go_wp2
    go_roundw
    case rel =>
     refine ⟨k + 1, by omega, by simp, g0.set4_other (by omega) _ _ _ _, (j0.set g1 _).congr fun i _ => (qcs s k i zb).symm, Below.set4 (hB.trans (zj.mono hB.size)) (by omega) _ _ _ _⟩
    case measure => simp [RowKit.intOf]; omega)
  ·obtain rfl : k = s.size := by omega
   go_wp2
   have q := j0.set h0 (Uq s s.size)
   have qc0 := q.c0; have qc1 := q.c1; have qc2 := q.c2; have qc3 := q.c3
   refine bodyPost_ret (v := sv (Uq s s.size)) (by simp [results, results85, go_sem, qc0, qc1, qc2, qc3, sv]) rfl ?_
   exact ⟨rfl, Below.set4 hB (by omega) _ _ _ _⟩
theorem idx0 (a b c d : Int) (w : World) : (Instr.index 55 (.agg #[.int .u64 a, .int .u64 b, .int .u64 c, .int .u64 d]) (.int .i64 0)).run prog w = .ok (.int .u64 a) w := by kernel_rfl
theorem idx1 (a b c d : Int) (w : World) : (Instr.index 55 (.agg #[.int .u64 a, .int .u64 b, .int .u64 c, .int .u64 d]) (.int .i64 1)).run prog w = .ok (.int .u64 b) w := by kernel_rfl
theorem idx2 (a b c d : Int) (w : World) : (Instr.index 55 (.agg #[.int .u64 a, .int .u64 b, .int .u64 c, .int .u64 d]) (.int .i64 2)).run prog w = .ok (.int .u64 c) w := by kernel_rfl
theorem idx3 (a b c d : Int) (w : World) : (Instr.index 55 (.agg #[.int .u64 a, .int .u64 b, .int .u64 c, .int .u64 d]) (.int .i64 3)).run prog w = .ok (.int .u64 d) w := by kernel_rfl
theorem qhU (f : Nat → Bool) (k : Nat) : cnt (wd f k).testBit 64 = cnt (fun j => f (64 * k + j)) 64 := Ky fun i hi => jr f k i hi
theorem qfp (f : Nat → Bool) (a0 a1 a2 a3 a4 d0 d1 d2 d3 : Nat) (h0 : a0 = 0) (hd0 : cnt (wd f 0).testBit 64 = d0) (hd1 : cnt (wd f 1).testBit 64 = d1) (QY : cnt (wd f 2).testBit 64 = d2) (hd3 : cnt (wd f 3).testBit 64 = d3)
  (s0 : wrap64 ((a0 : Int) + d0) = (a1 : Int)) (s1 : wrap64 ((a1 : Int) + d1) = (a2 : Int)) (s2 : wrap64 ((a2 : Int) + d2) = (a3 : Int)) (s3 : wrap64 ((a3 : Int) + d3) = (a4 : Int)) (w : World) :
  Calls prog 139 #[sv f] w fun e w' => e = .returned (.int .i64 (a4 : Int)) ∧ Below w.heap.size w w' := by
 have i0 := idx0 (wd f 0) (wd f 1) (wd f 2) (wd f 3); have i1 := idx1 (wd f 0) (wd f 1) (wd f 2) (wd f 3); have i2 := idx2 (wd f 0) (wd f 1) (wd f 2) (wd f 3); have i3 := idx3 (wd f 0) (wd f 1) (wd f 2) (wd f 3)
 have HD0 := ξ hd0; have HD1 := ξ hd1; have HD2 := ξ QY; have HD3 := ξ hd3; have H0 := ξ h0
 clear hd0 hd1 QY hd3 h0
 unfold sv
 go_enter func139, ntmps139
 go_wp2
 go_loop [7, 3] (fun i t => (i = .int .i64 0 ∧ t = .int .i64 (a0 : Int)) ∨ (i = .int .i64 1 ∧ t = .int .i64 (a1 : Int)) ∨ (i = .int .i64 2 ∧ t = .int .i64 (a2 : Int)) ∨ (i = .int .i64 3 ∧ t = .int .i64 (a3 : Int)) ∨ (i = .int .i64 4 ∧ t = .int .i64 (a4 : Int)))
  (fun i _ => 4 - (RowKit.intOf i).toNat)
 case atStart => exact .inl ⟨rfl, by rw [H0.out]; rfl⟩
 case round =>
  rcases hrel with ⟨rfl, rfl⟩ | ⟨rfl, rfl⟩ | ⟨rfl, rfl⟩ | ⟨rfl, rfl⟩ | ⟨rfl, rfl⟩
  ·go_wp2_with fail
   refine (YW _ (zQ f 0) _).mono ?_
   rintro e w1 ⟨rfl, rfl⟩
   rw [HD0.out]
   go_wp2
   go_round
   case rel => exact .inr (.inl ⟨rfl, by simp [s0, s1, s2, s3]⟩)
   case measure => simp [RowKit.intOf]
  ·go_wp2_with fail
   refine (YW _ (zQ f 1) _).mono ?_
   rintro e w1 ⟨rfl, rfl⟩
   rw [HD1.out]
   go_wp2
   go_round
   case rel => exact .inr (.inr (.inl ⟨rfl, by simp [s0, s1, s2, s3]⟩))
   case measure => simp [RowKit.intOf]
  ·go_wp2_with fail
   refine (YW _ (zQ f 2) _).mono ?_
   rintro e w1 ⟨rfl, rfl⟩
   rw [HD2.out]
   go_wp2
   go_round
   case rel => exact .inr (.inr (.inr (.inl ⟨rfl, by simp [s0, s1, s2, s3]⟩)))
   case measure => simp [RowKit.intOf]
  ·go_wp2_with fail
   refine (YW _ (zQ f 3) _).mono ?_
   rintro e w1 ⟨rfl, rfl⟩
   rw [HD3.out]
   go_wp2
   go_round
   case rel => exact .inr (.inr (.inr (.inr (⟨rfl, by simp [s0, s1, s2, s3]⟩))))
   case measure => simp [RowKit.intOf]
  ·go_wp2
   go_ret
   exact ⟨rfl, (Below.refl _ w).alloc (Nat.le_refl _) _⟩
theorem qhV (f : Nat → Bool) (w : World) :
  Calls prog 139 #[sv f] w fun e w' => e = .returned (.int .i64 ((cnt f 256 : Nat) : Int)) ∧ Below w.heap.size w w' := by
 have hs : ∀ k : Nat, k < 4 → wrap64 (((cnt f (64 * k) : Nat) : Int) + ((cnt (wd f k).testBit 64 : Nat) : Int)) = ((cnt f (64 * (k + 1)) : Nat) : Int) := fun k hk => by
  have h1 := YX f (64 * k) 64
  have h2 := Kv f (64 * (k + 1))
  rw [show 64 * (k + 1) = 64 * k + 64 by omega] at h2 ⊢
  rw [h1] at h2 ⊢
  rw [qhU]; unfold wrap64
  omega
 exact qfp f 0 (cnt f 64) (cnt f 128) (cnt f 192) (cnt f 256) _ _ _ _ rfl rfl rfl rfl rfl (hs 0 (by omega)) (hs 1 (by omega)) (hs 2 (by omega)) (hs 3 (by omega)) w
def oth (b : Nat) : Nat := if 65 ≤ b ∧ b ≤ 90 then b + 32 else if 97 ≤ b ∧ b ≤ 122 then b - 32 else b
theorem qfq (f : Nat → Bool) (w : World) :
  Calls prog 140 #[sv f] w fun e w' => e = .returned (.func (.func 158) #[] #[.pointer (some ⟨w.heap.size, 0, none⟩)]) ∧ w' = w.alloc (.cells #[.int .u64 (wd f 0), .int .u64 (wd f 1), .int .u64 (wd f 2), .int .u64 (wd f 3)] 55) := by
 unfold sv
 go_enter func140, ntmps140
 go_wp2
 go_ret
 exact ⟨rfl, rfl⟩
open Go.Shelf
attribute [local go_sem] Oper.semAt_some
def U (f : Nat → Bool) : Nat → List (Fin 256)
 | 0 => []
 | p + 1 => if h : p < 256 ∧ f p = true then U f p ++ [⟨p, h.1⟩] else U f p
theorem qks {f : Nat → Bool} {p : Nat} (h : p < 256) (hf : f p = true) : U f (p + 1) = U f p ++ [⟨p, h⟩] := by rw [U, dif_pos ⟨h, hf⟩]
theorem qhW {f : Nat → Bool} {p : Nat} (hf : f p = false) : U f (p + 1) = U f p := by rw [U, dif_neg (by simp [hf])]
theorem UA {f : Nat → Bool} {p : Nat} : ∀ n, (∀ y, p ≤ y → y < p + n → f y = false) → U f (p + n) = U f p
 | 0, _ => rfl
 | n + 1, h => by rw [← Nat.add_assoc, qhW (h _ (by omega) (by omega)), UA n (fun y h1 h2 => h y h1 (by omega))]
theorem qhX {f : Nat → Bool} {p x : Nat} (hx : x < 256) (hp : p ≤ x) (hf : f x = true) (h : ∀ y, p ≤ y → y < x → f y = false) : U f (x + 1) = U f p ++ [⟨x, hx⟩] := by
 rw [qks hx hf]
 have := UA (f := f) (p := p) (x - p) (fun y h1 h2 => h y h1 (by omega))
 rw [show p + (x - p) = x by omega] at this
 rw [this]
theorem JA (f : Nat → Bool) : ∀ p, p ≤ 256 → (U f p).length = cnt f p
 | 0, _ => rfl
 | p + 1, h => by
  rw [U, cnt]
  have ih := JA f p (by omega)
  by_cases hf : f p = true
  ·rw [dif_pos ⟨by omega, hf⟩]; simp [ih, hf]
  ·rw [dif_neg (by simp [hf])]; simp at hf; simp [ih, hf]
def From (f : Nat → Bool) (i p x : Nat) : Prop := x < 18446744073709551616 ∧ 64 * i ≤ p ∧ p ≤ 64 * (i + 1) ∧ ∀ j, j < 64 → x.testBit j = (f (64 * i + j) && decide (p ≤ 64 * i + j))
theorem From.start (f : Nat → Bool) (i : Nat) : From f i (64 * i) (wd f i) := ⟨zQ f i, Nat.le_refl _, by omega, fun j hj => by
 rw [jr f i j hj]; simp⟩
theorem From.done {f : Nat → Bool} {i p : Nat} (h : From f i p 0) : U f (64 * (i + 1)) = U f p := by
 obtain ⟨_, h1, h2, h3⟩ := h
 have := UA (f := f) (p := p) (64 * (i + 1) - p) (fun y g1 g2 => by
  have := h3 (y - 64 * i) (by omega)
  rw [show 64 * i + (y - 64 * i) = y by omega] at this
  simpa [g1] using this)
 rwa [show p + (64 * (i + 1) - p) = 64 * (i + 1) by omega] at this
theorem YL {x : Nat} (hx : x < 18446744073709551616) (h0 : x ≠ 0) : Lib.ctz 64 x < 64 ∧ x.testBit (Lib.ctz 64 x) = true ∧ ∀ j, j < Lib.ctz 64 x → x.testBit j = false := by
 obtain ⟨m, hm, hk⟩ := Lib.ctzFrom_spec 64 x (by omega) hx
 have e : Lib.ctz 64 x = Lib.ctzFrom 64 x := by simp [Lib.ctz, h0]
 rw [e]
 generalize Lib.ctzFrom 64 x = k at *
 subst hm
 refine ⟨hk, ?_, fun j hj => ?_⟩
 ·rw [Nat.mul_comm, Nat.testBit_mul_two_pow]; simp
 ·rw [Nat.mul_comm, Nat.testBit_mul_two_pow]; simp; omega
theorem qct {x : Nat} (hx : x < 18446744073709551616) (h0 : x ≠ 0) (j : Nat) : (x &&& (x - 1)).testBit j = (x.testBit j && decide (j ≠ Lib.ctz 64 x)) := by
 obtain ⟨m, hm, hk⟩ := Lib.ctzFrom_spec 64 x (by omega) hx
 have e : Lib.ctz 64 x = Lib.ctzFrom 64 x := by simp [Lib.ctz, h0]
 rw [e]
 generalize Lib.ctzFrom 64 x = k at *
 have Wa : 0 < 2 ^ k := Nat.two_pow_pos k
 have e1 : x = 2 ^ k * (2 * m + 1) + 0 := by omega
 have e2 : x - 1 = 2 ^ k * (2 * m) + (2 ^ k - 1) := by
  rw [hm, Nat.mul_add, Nat.mul_one]; omega
 rw [Nat.testBit_and, e2]
 conv => lhs; lhs; rw [e1]
 conv => rhs; lhs; rw [e1]
 rw [Nat.testBit_two_pow_mul_add _ Wa, Nat.testBit_two_pow_mul_add _ (by omega : 2 ^ k - 1 < 2 ^ k)]
 by_cases hj : j < k
 ·simp [hj]
 ·rw [if_neg hj, if_neg hj]
  by_cases hjk : j = k
  ·subst hjk; simp
  ·obtain ⟨d, hd⟩ : ∃ d, j - k = d + 1 := ⟨j - k - 1, by omega⟩
   rw [hd, Nat.testBit_succ, Nat.testBit_succ, show (2 * m + 1) / 2 = m by omega, show 2 * m / 2 = m by omega]
   simp [hjk]
theorem From.next {f : Nat → Bool} {i p x : Nat} (h : From f i p x) (hi : i < 4) (h0 : x ≠ 0) :
  ∃ hb : 64 * i + Lib.ctz 64 x < 256, U f (64 * i + Lib.ctz 64 x + 1) = U f p ++ [⟨64 * i + Lib.ctz 64 x, hb⟩] ∧ From f i (64 * i + Lib.ctz 64 x + 1) (x &&& (x - 1)) := by
 obtain ⟨h1, h2, h3, h4⟩ := h
 obtain ⟨c1, c2, c3⟩ := YL h1 h0
 have hb : 64 * i + Lib.ctz 64 x < 256 := by omega
 have hc := h4 _ c1
 rw [c2] at hc
 simp at hc
 refine ⟨hb, qhX hb hc.2 hc.1 (fun y g1 g2 => ?_), ?_⟩
 ·have := h4 (y - 64 * i) (by omega)
  rw [c3 _ (by omega), show 64 * i + (y - 64 * i) = y by omega] at this
  simpa [g1] using this
 ·refine ⟨Nat.lt_of_le_of_lt Nat.and_le_left h1, by omega, by omega, fun j hj => ?_⟩
  rw [qct h1 h0]
  rcases Nat.lt_trichotomy j (Lib.ctz 64 x) with zb | rfl | VF
  ·have e : ¬ 64 * i + Lib.ctz 64 x + 1 ≤ 64 * i + j := by omega
   rw [c3 j zb]; simp [e]
  ·have e : ¬ 64 * i + Lib.ctz 64 x + 1 ≤ 64 * i + Lib.ctz 64 x := by omega
   simp [e]
  ·have e : 64 * i + Lib.ctz 64 x + 1 ≤ 64 * i + j := by omega
   have e2 : p ≤ 64 * i + j := by omega
   have e3 : ¬ j = Lib.ctz 64 x := by omega
   rw [h4 j hj]; simp [e, e2, e3]
theorem From.next' {f : Nat → Bool} {i p x : Nat} (h : From f i p x) (hi : i < 4) (h0 : x ≠ 0) :
  ∃ (y : Nat) (hb : y < 256), (i : Int) * 64 + ((Lib.ctz 64 x : Nat) : Int) = (y : Int) ∧ U f (y + 1) = U f p ++ [⟨y, hb⟩] ∧ From f i (y + 1) (x &&& (x - 1)) := by
 obtain ⟨hb, h1, h2⟩ := h.next hi h0
 exact ⟨_, hb, by omega, h1, h2⟩
theorem TabAt.below {n₀ : Nat} {W W' : World} {tab : List Nat} (h : TabAt 0 tab W) (hB : Below n₀ W W') (hn : 0 < n₀) : TabAt 0 tab W' := fun j hj => (hB.cell (p := ⟨0, j, none⟩) hn).trans (h j hj)
theorem qcu (x : Nat) (hx : x < 18446744073709551616) (h0 : x ≠ 0) : bits .and .u64 (x : Int) ((x : Int) - 1) = ((x &&& (x - 1) : Nat) : Int) := by
 rw [u64_and x (x - 1) hx (by omega) x _ rfl (by omega)]
theorem qcv (n : Nat) (hn : 1 ≤ n) (l Bn n₀ : Nat) (hn0 : 0 < n₀) (f : Nat → Bool) (J Jx : List (Fin 256) → World → Prop)
  (hY : ∀ pre x W, J pre W → pre.length < 256 → YieldAt Fence.wide (n - 1) prog l #[.int .u8 (x.1 : Int)] W fun e W' =>
   (e = .returned (.bool true) ∧ J (pre ++ [x]) W' ∧ Below n₀ W W') ∨ (e = .returned (.bool false) ∧ Jx (pre ++ [x]) W'))
  (W : World) (hT : TabAt 0 Lib.deBruijn64tab W) (hF : j0 W Bn f) (h0 : J [] W) :
  CallsIn Fence.wide n prog 158 #[.func (.yield l) #[] #[], .pointer (some ⟨Bn, 0, none⟩)] W fun e W' => (∃ v, e = .returned v) ∧
   ((∃ ys, ys = U f 256 ∧ J ys W') ∨ (∃ pre, True ∧ Jx pre W')) := by
 have hFc0 := hF.c0; have hFc1 := hF.c1; have hFc2 := hF.c2; have hFc3 := hF.c3
 refine callsIn_of_wp func158 rfl trivial ?_ rfl
 simp only [ntmps158, List.size_toArray, List.length_cons, List.length_nil, Nat.reduceAdd, Nat.reduceSub, Array.replicate_succ, Array.replicate_zero, List.push_toArray, List.append_toArray, List.nil_append, List.cons_append]
 gi_wp2
 gi_loopw [6] (fun i wr => ∃ k : Nat, k ≤ 4 ∧ i = .int .i64 k ∧ J (U f (64 * k)) wr ∧ Below n₀ W wr)
  (fun i _ => 4 - (RowKit.intOf i).toNat)
 case atStart => exact ⟨0, by omega, rfl, h0, Below.refl _ _⟩
 case round =>
  obtain ⟨k, hk, rfl, hJ, hB⟩ := hrel
  have hx : k < 4 → ∀ w : World, (Instr.index 55 (.agg #[.int .u64 (wd f 0), .int .u64 (wd f 1), .int .u64 (wd f 2), .int .u64 (wd f 3)]) (.int .i64 k)).run prog w = .ok (.int .u64 (wd f k)) w := fun vn w => by
   rcases (by omega : k = 0 ∨ k = 1 ∨ k = 2 ∨ k = 3) with rfl | rfl | rfl | rfl
   ·exact idx0 _ _ _ _ w
   ·exact idx1 _ _ _ _ w
   ·exact idx2 _ _ _ _ w
   ·exact idx3 _ _ _ _ w
  by_cases zb : k < 4
  ·have hx' := hx zb
   clear hx
   gi_wp2
   have hdec : decide ((k : Int) < 4) = true := by simp; omega
   simp only [hdec]
   clear hdec
   gi_loopw [4] (fun v ws => ∃ p x : Nat, v = .int .u64 x ∧ From f k p x ∧ J (U f p) ws ∧ Below n₀ W ws) (fun v _ => (RowKit.intOf v).toNat)
   case atStart => exact ⟨64 * k, wd f k, rfl, From.start f k, hJ, hB⟩
   case round =>
    clear hJ hB
    obtain ⟨p, x, rfl, VG, hJ, hB⟩ := hrel
    have hxl := VG.1
    by_cases Zq : x = 0
    ·subst Zq
     have hd := VG.done
     clear hxl VG
     gi_wp2
     go_roundw
     case rel => exact ⟨k + 1, by omega, by simp, by rw [hd]; exact hJ, hB⟩
     case measure => simp [RowKit.intOf]; omega
    ·obtain ⟨y, hb, hsum, hU, hfr'⟩ := VG.next' zb Zq
     have UB : (U f p).length < 256 := by
      have h1 := JA f (y + 1) (by omega)
      have h2 := Kv f (y + 1)
      rw [hU] at h1
      simp at h1
      omega
     obtain ⟨fn, tmps, assign, body, hy, hR⟩ := hY (U f p) ⟨y, hb⟩ wr hJ UB
     have htz := qhY x hxl Zq wr (TabAt.below hT hB hn0)
     have Htz := ξ htz
     have GY := qcu x hxl Zq
     have hxp : x &&& (x - 1) < x := Nat.lt_of_le_of_lt Nat.and_le_right (by omega)
     dsimp only at hy
     have HU := ξ hU
     have HF := ξ hfr'
     have hz : ((x : Int) == 0) = false := by simp; omega
     clear htz hU hfr' VG
     gi_wp2_with ((try refine ⟨trivial, ?_⟩); gi_at_call 75; refine (callsIn_wide.2 Htz.out).mono ?_; rintro e w' ⟨rfl, rfl⟩)
     refine hR.mono ?_
     rintro e W3 (⟨rfl, vw, zl⟩ | ⟨rfl, hJx3⟩)
     ·gi_wp2
      go_roundw
      case rel => exact ⟨y + 1, x &&& (x - 1), rfl, HF.out, by rw [HU.out]; exact vw, hB.trans zl⟩
      case measure => simp only [RowKit.intOf, Array.getD]; simp; omega
     ·gi_wp2
      refine bodyPost_ret (results_none rfl _ _ _) rfl ?_
      exact ⟨⟨_, rfl⟩, .inr ⟨_, trivial, hJx3⟩⟩
  ·obtain rfl : k = 4 := by omega
   gi_wp2
   go_end0
   exact ⟨⟨_, rfl⟩, .inl ⟨_, rfl, hJ⟩⟩
theorem UC (n : Nat) (hn : 1 ≤ n) (Bn n₀ : Nat) (hn0 : 0 < n₀) (f : Nat → Bool) (w : World) (hT : TabAt 0 Lib.deBruijn64tab w) (hF : j0 w Bn f) (zb : Bn < w.heap.size) (h0 : 0 < w.heap.size) :
  SeqStopsK Fence.wide n prog 158 #[.pointer (some ⟨Bn, 0, none⟩)] (fun x : Fin 256 => #[Value.int .u8 (x.1 : Int)]) (Below n₀) (fun ys => ys = U f 256) (fun _ => True) 256 w := fun l J Jx W hW _ _ hY h00 =>
 qcv n hn l Bn n₀ hn0 f J Jx hY W (TabAt.below hT hW h0) (hF.below hW zb) h00
theorem Four.kept {A B : World} {row : Option Nat} {b : Nat} {t : TypeId} {v0 v1 v2 v3 : Value} (h : Four A b t v0 v1 v2 v3) (hg : A.grownBy B row) (hr : ∀ r, row = some r → ∃ o, A.heap[r]? = some o ∧ o.isCells = false) : Four B b t v0 v1 v2 v3 := by
 refine ⟨(hg.block b h.lt (fun e => ?_)).trans h.heap⟩
 obtain ⟨o, ho, hc⟩ := hr b e.symm
 rw [h.heap] at ho; cases ho; cases hc
def qkv (f : Nat → Bool) (i : Nat) : Bool := f i || f (oth i)
theorem qcw (f : Nat → Bool) : ∀ p, p ≤ 256 → ∀ x : Fin 256, x ∈ U f p ↔ (f x.1 = true ∧ x.1 < p)
 | 0, _, x => by simp [U]
 | p + 1, hp, x => by
  have ih := qcw f p (by omega) x
  rw [U]
  by_cases h : p < 256 ∧ f p = true
  ·rw [dif_pos h, List.mem_append, ih]
   constructor
   ·rintro (⟨h1, h2⟩ | h1)
    ·exact ⟨h1, by omega⟩
    ·simp at h1; subst h1; exact ⟨h.2, by simp⟩
   ·rintro ⟨h1, h2⟩
    by_cases e : x.1 = p
    ·right; simp; exact Fin.ext e
    ·left; exact ⟨h1, by omega⟩
  ·rw [dif_neg h, ih]
   constructor
   ·rintro ⟨h1, h2⟩; exact ⟨h1, by omega⟩
   ·rintro ⟨h1, h2⟩
    refine ⟨h1, ?_⟩
    have : x.1 ≠ p := fun e => h ⟨by omega, by rw [← e]; exact h1⟩
    omega
attribute [local go_sem] Oper.semAt_some
theorem Jz : (Tryz.prog.info? 5).map (fun i => (i.zero, i.size, i.bytes)) = some (some (.int .u8 0), 1, 1) := by kernel_rfl
def nums (l : List (Fin 256)) : List Int := l.map fun x => (x.1 : Int)
def bytesOf (f : Nat → Bool) : ByteArray := strOfNums (nums (U f 256))
theorem jn {W : World} {base k : Nat} {v : Value} {ns : List Int} (h : W.ownsRow base 5 1 v k (ns.map (Value.int .u8))) :
  (convert 118 9 v).run prog W = .ok (.string (strOfNums ns)) W := by
 have hl : ns.length = k := by have := h.1; simpa using this
 rcases h.2 with ⟨rfl, rfl⟩ | ⟨g, cap, cur, rfl, _⟩
 ·have e : ns = [] := List.eq_nil_of_length_eq_zero hl
  subst e
  exact run_convert_bytes_nil W 118 5 underlying118 underlying5 0 0 _ underlying9
 ·refine run_convert_bytes_arg W 118 5 underlying118 underlying5 g 0 k cap ns hl (fun i hi => ?_) _ underlying9
  have := h.cellAt i (by omega)
  rw [Nat.zero_add, this]
  simp [List.getD, List.getElem?_eq_getElem (show i < ns.length by omega)]
theorem qcx (f : Nat → Bool) (w : World) (hT : TabAt 0 Lib.deBruijn64tab w) (hw : 0 < w.heap.size) :
  CallsIn Fence.wide 5 prog 120 #[sv f] w fun e w' => e = .returned (.string (bytesOf f)) ∧ Below w.heap.size w w' := by
 obtain ⟨i0, hi, QX, kF, vv⟩ := info_parts Jz
 have HE := ξ (fun w => qfq f w)
 have HS := ξ (fun w => qhV f w)
 have kC := Kv f 256
 unfold sv at HE HS ⊢
 refine callsIn_of_wp_marks func120 rfl trivial ?_ rfl
 simp only [ntmps120, List.size_toArray, List.length_cons, List.length_nil, Nat.reduceAdd, Nat.reduceSub, Array.replicate_succ, Array.replicate_zero, List.push_toArray, List.append_toArray, List.nil_append, List.cons_append]
 gi_wp2_with fail
 refine ⟨trivial, ?_⟩
 refine (callsIn_wide.2 (HS.out _)).mono ?_
 rintro e w1 ⟨rfl, qr⟩
 have q0 := Four.new w 55 (.int .u64 (wd f 0)) (.int .u64 (wd f 1)) (.int .u64 (wd f 2)) (.int .u64 (wd f 3))
 have q1 := q0.below qr q0.lt
 have VE : Below w.heap.size w w1 := ((Below.refl _ w).alloc (Nat.le_refl _) _).trans (qr.mono (by simp))
 have qhP := VE.size
 clear q0 qr
 gi_wp2_with (gi_at_make; refine wpListIn_make_own _ rfl _ _ 118 rfl w.heap.size 5 i0 (.int .u8 0) 1 underlying118 hi QX kF .i64 .i64 _ (cnt f 256) rfl rfl rfl (by rw [vv]; omega) (by unfold maxLen; omega) qhP ?_; intro w2 zq zM; have q2 := Four.kept q1 zM (by simp); have q2c0 := q2.c0; have q2c1 := q2.c1; have q2c2 := q2.c2; have q2c3 := q2.c3; have q3 := q2.alloc (.cells #[.slice (some ⟨w1.heap.size, 0, none⟩) 0 (cnt f 256)] 118); have q3c0 := q3.c0; have q3c1 := q3.c1; have q3c2 := q3.c2; have q3c3 := q3.c3)
 refine ⟨trivial, (callsIn_wide.2 (HE.out _)).mono ?_⟩
 rintro e w3 ⟨rfl, rfl⟩
 gi_wp2
 have qfs := zM.size
 have zj : Below w.heap.size w w2 := VE.grown zM qhP (fun k e => by cases e)
 have bO := Boxed.new w2 118 (.slice (some ⟨w1.heap.size, 0, none⟩) 0 (cnt f 256))
 have fE := Four.new (w2.alloc (.cells #[.slice (some ⟨w1.heap.size, 0, none⟩) 0 (cnt f 256)] 118)) 55 (.int .u64 (wd f 0)) (.int .u64 (wd f 1)) (.int .u64 (wd f 2)) (.int .u64 (wd f 3))
 rw [World.size_alloc] at fE
 have XF : Below w.heap.size w ((w2.alloc (.cells #[.slice (some ⟨w1.heap.size, 0, none⟩) 0 (cnt f 256)] 118)).alloc (.cells #[.int .u64 (wd f 0), .int .u64 (wd f 1), .int .u64 (wd f 2), .int .u64 (wd f 3)] 55)) := (zj.alloc (by omega) _).alloc (by simp; omega) _
 have GZ := (zq.alloc (.cells #[.slice (some ⟨w1.heap.size, 0, none⟩) 0 (cnt f 256)] 118)).alloc (.cells #[.int .u64 (wd f 0), .int .u64 (wd f 1), .int .u64 (wd f 2), .int .u64 (wd f 3)] 55)
 have bO0 := bO.alloc (.cells #[.int .u64 (wd f 0), .int .u64 (wd f 1), .int .u64 (wd f 2), .int .u64 (wd f 3)] 55)
 clear q2c0 q2c1 q2c2 q2c3 q3 q3c0 q3c1 q3c2 q3c3 q1 q2 zq bO
 refine wpIn_rangeFunc_ownG rfl (by omega) (gf := 158) (lb := #[.pointer (some ⟨w2.heap.size + 1, 0, none⟩)]) rfl trivial (enters_of func158 (by kernel_rfl) rfl)
  (UC (5 - 1) (by omega) (w2.heap.size + 1) w.heap.size hw f _ (TabAt.below hT XF hw) fE (by simp) (by simp)) belowK_t (belowK_b (by simp; omega)) (Below.refl _ _) (fun _ => rfl)
  (fun pre W => (∃ v, Boxed W w2.heap.size 118 v ∧ W.ownsRow w.heap.size 5 1 v pre.length ((nums pre).map (Value.int .u8)) ∧ True) ∧ Below w.heap.size w W)
  (fun _ _ _ => False)
  (OwnFrom.and (Own.from (holdsRow_own w.heap.size w2.heap.size 118 5 1 (fun pre => pre.length) (fun pre => (nums pre).map (Value.int .u8)) (fun _ _ => True)) _) (ownFrom_below (Nat.le_refl _) (by simp; omega)))
  (fun _ _ _ _ _ hs _ _ => hs)
  ⟨⟨_, bO0, GZ, trivial⟩, XF⟩
  (fun x => { tmps := #[.agg #[.int .u64 (wd f 0), .int .u64 (wd f 1), .int .u64 (wd f 2), .int .u64 (wd f 3)], .pointer (some ⟨w.heap.size, 0, none⟩), .string { data := #[] }, .pointer (some ⟨w2.heap.size, 0, none⟩), .int .u8 (x.1 : Int), .agg #[.int .u64 (wd f 0), .int .u64 (wd f 1), .int .u64 (wd f 2), .int .u64 (wd f 3)], .int .i64 (cnt f 256 : Int), .slice (some ⟨w1.heap.size, 0, none⟩) 0 (cnt f 256), .agg #[.int .u64 (wd f 0), .int .u64 (wd f 1), .int .u64 (wd f 2), .int .u64 (wd f 3)], .func (.func 158) #[] #[.pointer (some ⟨w2.heap.size + 1, 0, none⟩)], .int .u8 (x.1 : Int), undef, undef, undef, undef, undef, undef], defers := [] }) ?assign ?body ?done ?stop
 case assign =>
  intro l x W K hK
  gi_wp2
  exact hK
 case body =>
  rintro l pre x W ⟨⟨v, hv, qv, _⟩, hB⟩ zb
  have hc := hv.cell
  gi_wp2_with (gi_at_builtin; refine wpListIn_append_own _ rfl _ _ 118 rfl w.heap.size 5 i0 (.int .u8 0) 1 1 underlying118 hi QX kF vv rfl (by decide) _ _ _ rfl (qv.alloc _) ⟨W.heap.size, 0, none⟩ 1 1 [.int .u8 x.1] rfl rfl (cell_one_new _ _ _) (by simp [Value.oneCell']) (by unfold maxLen; omega) (by omega) (by have := hB.size; simp; omega) ?_; intro v' w1' KW hgrow' _; obtain ⟨g', cap', rfl⟩ := ownsRow_succ KW; obtain ⟨Ko, UD, Qo, qH, jD⟩ := hv.appended (by decide) qv hB.size (by omega) KW hgrow'; have yp := Ko.cell; have hf1 := Ko.frozen)
  refine ⟨qH.from _, jD, ⟨_, UD, ?_, trivial⟩, hB.trans jD⟩
  rw [show (nums (pre ++ [x])).map (Value.int .u8) = (nums pre).map (Value.int .u8) ++ [.int .u8 (x.1 : Int)] by simp [nums]]
  simpa using Qo
 case done =>
  rintro D ys W hD rfl ⟨⟨v, hv, qv, _⟩, hB⟩ hK
  have hc := hv.cell
  have hcv := jn qv
  gi_wp2
  refine ⟨by simp, .inl ⟨_, _, rfl, run_takeDeferred hK, ?_⟩⟩
  exact ⟨_, results_tmp rfl _ _ _, rfl, hB.trans (belowK_b (w := w) (Nat.le_refl _) W D _ _ (by simp at hD; omega) hK rfl rfl)⟩
 case stop =>
  rintro D c pre W _ _ h _
  exact h.elim
theorem qft (f : Nat → Bool) (w : World) (hT : TabAt 0 Lib.deBruijn64tab w) (hw : 0 < w.heap.size) :
  Calls prog 120 #[sv f] w fun e w' => e = .returned (.string (bytesOf f)) ∧ Below w.heap.size w w' :=
 (callsIn_wide (n := 5)).1 (qcx f w hT hw)
end Go.Proofs.YtjgegohidhdbpaaGreatDoor
namespace Go.Proofs.YtjgegohidhdbpaaGreatDoor
open Go.RowKit
structure Fit (w : World) : Prop where
 tab : TabAt 0 Lib.deBruijn64tab w
 pos : 0 < w.heap.size
theorem Fit.below {w w' : World} (h : Fit w) (hB : Below w.heap.size w w') : Fit w' := ⟨TabAt.below h.tab hB h.pos, Nat.lt_of_lt_of_le h.pos hB.size⟩
theorem Fit.alloc {w : World} (h : Fit w) (o : Obj) : Fit (w.alloc o) := h.below ((Below.refl _ w).alloc (Nat.le_refl _) o)
theorem qaU (f : Nat → Bool) (w : World) (hw : Fit w) : Calls prog 120 #[sv f] w fun e w' => e = .returned (.string (bytesOf f)) ∧ Below w.heap.size w w' := qft f w hw.tab hw.pos
theorem Fit.drew {w : World} (h : Fit w) : Fit w.drew := ⟨h.tab, h.pos⟩
theorem Fit.set4 {w : World} (h : Fit w) {b : Nat} (hb : 0 < b) (u0 u1 u2 u3 : Value) : Fit ((((w.setCell ⟨b, 0, none⟩ u0).setCell ⟨b, 1, none⟩ u1).setCell ⟨b, 2, none⟩ u2).setCell ⟨b, 3, none⟩ u3) := by
 have hB := Below.set4 (Below.refl b w) (Nat.le_refl b) u0 u1 u2 u3
 exact ⟨TabAt.below h.tab hB hb, Nat.lt_of_lt_of_le h.pos hB.size⟩
theorem YY (f : Nat → Bool) : (bytesOf f).data.toList = (U f 256).map fun x => UInt8.ofNat x.1 := by
 simp [bytesOf, strOfNums_data, nums]
theorem ZS (f : Nat → Bool) : (bytesOf f).size = cnt f 256 := by
 rw [bytesOf, strOfNums_size, nums, List.length_map, JA f 256 (Nat.le_refl _)]
theorem Wb (f : Nat → Bool) (i : Nat) (hi : i < 256) : Uq (bytesOf f) (bytesOf f).size i = f i := by
 have e : (bytesOf f).data.toList.length = (bytesOf f).size := by simp
 unfold Uq
 rw [List.take_of_length_le (by omega), YY, List.any_map, Bool.eq_iff_iff, List.any_eq_true]
 constructor
 ·rintro ⟨x, hx, he⟩
  rw [qcw f 256 (Nat.le_refl _)] at hx
  simp at he
  rw [← he]; exact hx.1
 ·intro h
  refine ⟨⟨i, hi⟩, (qcw f 256 (Nat.le_refl _) _).2 ⟨h, hi⟩, ?_⟩
  simp
theorem jL (B b o0 n cap : Nat) (xs : List Nd) (qq : xs.length = n) (hn : n ≤ 120) : ∀ t : T, t.Ok → Qg B b o0 n cap xs t
 | .leaf ⟨kd, w0, w1, w2, w3, xa, xb, m, M, xn⟩, h => UE B b o0 n cap xs qq hn kd w0 w1 w2 w3 xa xb m M xn h
 | .two k s t, h => by
  rcases h.1 with rfl | rfl
  ·exact UF B b o0 n cap xs qq hn s t (jL B b o0 n cap xs qq hn s h.2.1) (jL B b o0 n cap xs qq hn t h.2.2)
  ·exact UG B b o0 n cap xs qq hn s t (jL B b o0 n cap xs qq hn s h.2.1) (jL B b o0 n cap xs qq hn t h.2.2)
 | .times m M t, h => Wc B b o0 n cap xs qq hn m M t (jL B b o0 n cap xs qq hn t h.2)
 | .group k t, h => Wd B b o0 n cap xs qq hn k h.1 t (jL B b o0 n cap xs qq hn t h.2)
theorem qK (w : World) (ob : Obj) (c : Nat) (h : c < w.heap.size) : (w.alloc ob).heap[c]? = w.heap[c]? := by
 show (w.heap.push ob)[c]? = _
 rw [Array.getElem?_push_lt h]; simp [h]
theorem VH (b o n cap : Nat) (xs : List Nd) (qq : xs.length = n) (h1 : 1 ≤ n) (hn : n ≤ 120) (t : T) (ht : t.Ok) (ha : T.At (fun i => xs[i]?) t 0) (hs : t.size = n) (w : World) (hx : qn w b o xs) :
  Calls prog 57 #[.slice (some ⟨b, o, none⟩) n cap] w fun e w' => e = .returned (.bool (num t (0, fun _ => false)).isSome) ∧ Below w.heap.size w w' := by
 obtain ⟨p, rfl⟩ : ∃ p, n = p + 1 := ⟨n - 1, by omega⟩
 have IT := ξ fun w1 hE => jL w.heap.size b o (p + 1) cap xs qq hn t ht 0 p 0 (fun _ => false) w1 ha (by omega) (by omega) (by omega) hE
 clear ha ht
 obtain ⟨V, hV⟩ : ∃ V, V = ((((w.alloc (.cells #[.slice (some ⟨b, o, none⟩) (p + 1) cap] 22)).alloc (.cells #[.int .i64 0] 3)).alloc (.cells #[.bool false, .bool false, .bool false, .bool false, .bool false, .bool false, .bool false, .bool false, .bool false, .bool false] 130)).alloc (.cells #[.func (.func 95) #[] #[.pointer (some ⟨w.heap.size, 0, none⟩), .pointer (some ⟨w.heap.size + 1 + 1 + 1, 0, none⟩), .pointer (some ⟨w.heap.size + 1, 0, none⟩), .pointer (some ⟨w.heap.size + 1 + 1, 0, none⟩)]] 96)) := ⟨_, rfl⟩
 have e1 : ((w.alloc (.cells #[.slice (some ⟨b, o, none⟩) (p + 1) cap] 22))).heap.size = w.heap.size + 1 := World.size_alloc _ _
 have e2 : (((w.alloc (.cells #[.slice (some ⟨b, o, none⟩) (p + 1) cap] 22)).alloc (.cells #[.int .i64 0] 3))).heap.size = w.heap.size + 1 + 1 := by rw [World.size_alloc, e1]
 have e3 : ((((w.alloc (.cells #[.slice (some ⟨b, o, none⟩) (p + 1) cap] 22)).alloc (.cells #[.int .i64 0] 3)).alloc (.cells #[.bool false, .bool false, .bool false, .bool false, .bool false, .bool false, .bool false, .bool false, .bool false, .bool false] 130))).heap.size = w.heap.size + 1 + 1 + 1 := by rw [World.size_alloc, e2]
 have g0 : V.heap[w.heap.size]? = some ((.cells #[.slice (some ⟨b, o, none⟩) (p + 1) cap] 22 (0, 0))) := by
  rw [hV, qK _ _ _ (by omega), qK _ _ _ (by omega), qK _ _ _ (by omega)]; exact zt _ _
 have g1 : V.heap[w.heap.size + 1]? = some ((.cells #[.int .i64 0] 3 (0, 0))) := by
  rw [hV, qK _ _ _ (by omega), qK _ _ _ (by omega), ← e1]; exact zt _ _
 have g2 : V.heap[w.heap.size + 2]? = some (.cells (ten fun _ => false) 130 (0, 0)) := by
  rw [hV, qK _ _ _ (by omega), show w.heap.size + 2 = w.heap.size + 1 + 1 from rfl, ← e2]; exact zt _ _
 have g3 : V.heap[w.heap.size + 1 + 1 + 1]? = some ((.cells #[.func (.func 95) #[] #[.pointer (some ⟨w.heap.size, 0, none⟩), .pointer (some ⟨w.heap.size + 1 + 1 + 1, 0, none⟩), .pointer (some ⟨w.heap.size + 1, 0, none⟩), .pointer (some ⟨w.heap.size + 1 + 1, 0, none⟩)]] 96 (0, 0))) := by
  rw [hV, ← e3]; exact zt _ _
 clear e1 e2 e3
 have bV : Below w.heap.size w V := by
  rw [hV]
  exact ((((Below.refl _ w).alloc (Nat.le_refl _) _).alloc (by simp) _).alloc (by simp; omega) _).alloc (by simp; omega) _
 have lb := hx.lt
 have hE : Env w.heap.size b o (p + 1) cap xs 0 (fun _ => false) V := ⟨lb, g0, g1, g2, g3, hx.below bV lb⟩
 have cE := hE.cl; have fE := hE.cf
 have I1 := IT.out V hE
 clear IT g0 g1 g2 g3
 generalize num t (0, fun _ => false) = u at *
 rw [hV] at I1 cE fE bV
 clear hE hV
 cases u with
 | none =>
  simp only [Post, Option.isSome_none] at I1 ⊢
  have I1 := ξ I1
  go_enter func57, ntmps57
  go_wp2_with (go_at_call 95; refine I1.out.mono ?_; rintro e w1 ⟨rfl, hB⟩)
  go_ret
  exact ⟨rfl, bV.trans hB.bel⟩
 | some v =>
  simp only [Post, Option.isSome_some] at I1 ⊢
  have I1 := ξ I1
  go_enter func57, ntmps57
  go_wp2_with (go_at_call 95; refine I1.out.mono ?_; rintro e w1 ⟨⟨rfl, _⟩, hB⟩)
  go_ret
  exact ⟨rfl, bV.trans hB.bel⟩
def qN (xs : List Nd) (t : T) : Prop :=
 t.Ok ∧ T.At (fun i => xs[i]?) t 0 ∧ t.size = xs.length ∧ xs.length ≤ 120 ∧ (∀ (i : Nat) (x : Nd), xs[i]? = some x → qY x = true) ∧ (∀ (i : Nat) (x : Nd), xs[i]? = some x → Zj xs x) ∧ (num t (0, fun _ => false)).isSome = true
end Go.Proofs.YtjgegohidhdbpaaGreatDoor
namespace Go.Proofs.YtjgegohidhdbpaaGreatDoor
open Go.Lib
/-! Decimal numerals. -/
/-! What stands ahead of the first of a byte. -/
/-! Bytes as two digits of base 16 each. -/
def dig (n : Nat) : UInt8 := if n < 10 then UInt8.ofNat (48 + n) else UInt8.ofNat (87 + n)
theorem qcy : ∀ n, n < 16 → dig n ≠ 93 := by decide +kernel
def Zi (l : List UInt8) : List UInt8 := l.flatMap fun b => [dig (b.toNat / 16), dig (b.toNat % 16)]
theorem qcz (l : List UInt8) : (93 : UInt8) ∉ Zi l := by
 intro h
 simp only [Zi, List.mem_flatMap] at h
 obtain ⟨b, _, hb⟩ := h
 have := b.toNat_lt
 simp at hb
 rcases hb with hb | hb
 ·exact qcy _ (by omega) hb.symm
 ·exact qcy _ (by omega) hb.symm
def Nd.set (x : Nd) : Nat → Bool := qS x.w0 x.w1 x.w2 x.w3
def zC (x : Nd) : List UInt8 :=
 if x.kind = 0 then [101] else if x.kind = 1 then 91 :: (Zi (bytesOf x.set).data.toList ++ [93]) else if x.kind = 2 then [94] else if x.kind = 3 then [36] else 92 :: itoa x.n
def text : T → List UInt8
 | .leaf x => zC x
 | .two k a b => (if k = 4 then 38 else 124) :: (text a ++ text b)
 | .times m M t => 42 :: (itoa m ++ 44 :: (itoa M ++ 59 :: text t))
 | .group n t => 40 :: (text t ++ [41])
def VY : T → Prop
 | .leaf x => x.Fits
 | .two _ a b => VY a ∧ VY b
 | .times _ _ t => VY t
 | .group _ t => VY t
theorem qaX {n : Int} (h : zR n = true) : itoa n = [UInt8.ofNat (48 + n.toNat)] := by
 have := Zx h
 unfold itoa
 rw [if_neg (by omega), decDigits_one (by omega)]
end Go.Proofs.YtjgegohidhdbpaaGreatDoor
