/- The iterator 'each', and what ranges over it: Fold, Bytes. -/
import Derived.Test.YtfkidgbjjlgjdaaDoorZSetC
import Derived.RangeFuncNested
import Derived.RangeFuncBound
import Derived.RangeFuncCalls
import Derived.RangeFuncLeaves
import Derived.RangeFuncBox
import Derived.Shelf.Abstract
import Derived.Shelf.RegionOpen
import Derived.OwnWalkIn
import Derived.TacticsInMore
import Derived.LoopNIn
import Derived.LoopIn
import Derived.Maps.AppendAt
namespace Go.Proofs.YtfkidgbjjlgjdaaDoor
open Go.RowKit Go.Shelf
set_option linter.unusedVariables false
set_option linter.unusedSimpArgs false

attribute [local go_sem] Oper.semAt_some

/-- The bytes of f below p, rising. -/
def U (f : Nat → Bool) : Nat → List (Fin 256)
  | 0 => []
  | p + 1 => if h : p < 256 ∧ f p = true then U f p ++ [⟨p, h.1⟩] else U f p

theorem U_hit {f : Nat → Bool} {p : Nat} (h : p < 256) (hf : f p = true) : U f (p + 1) = U f p ++ [⟨p, h⟩] := by rw [U, dif_pos ⟨h, hf⟩]
theorem U_miss {f : Nat → Bool} {p : Nat} (hf : f p = false) : U f (p + 1) = U f p := by rw [U, dif_neg (by simp [hf])]
theorem U_skip {f : Nat → Bool} {p : Nat} : ∀ n, (∀ y, p ≤ y → y < p + n → f y = false) → U f (p + n) = U f p
  | 0, _ => rfl
  | n + 1, h => by rw [← Nat.add_assoc, U_miss (h _ (by omega) (by omega)), U_skip n (fun y h1 h2 => h y h1 (by omega))]
theorem U_next {f : Nat → Bool} {p x : Nat} (hx : x < 256) (hp : p ≤ x) (hf : f x = true) (h : ∀ y, p ≤ y → y < x → f y = false) : U f (x + 1) = U f p ++ [⟨x, hx⟩] := by
  rw [U_hit hx hf]
  have := U_skip (f := f) (p := p) (x - p) (fun y h1 h2 => h y h1 (by omega))
  rw [show p + (x - p) = x by omega] at this
  rw [this]
theorem U_length (f : Nat → Bool) : ∀ p, p ≤ 256 → (U f p).length = cnt f p
  | 0, _ => rfl
  | p + 1, h => by
    rw [U, cnt]
    have ih := U_length f p (by omega)
    by_cases hf : f p = true
    · rw [dif_pos ⟨by omega, hf⟩]; simp [ih, hf]
    · rw [dif_neg (by simp [hf])]; simp at hf; simp [ih, hf]

/-- The word x holds the bits of f from p on, in its 64 from 64 i on. -/
def From (f : Nat → Bool) (i p x : Nat) : Prop := x < 18446744073709551616 ∧ 64 * i ≤ p ∧ p ≤ 64 * (i + 1) ∧ ∀ j, j < 64 → x.testBit j = (f (64 * i + j) && decide (p ≤ 64 * i + j))
theorem From.start (f : Nat → Bool) (i : Nat) : From f i (64 * i) (wd f i) := ⟨wd_lt f i, Nat.le_refl _, by omega, fun j hj => by
  rw [wd_bit f i j hj]; simp⟩
theorem From.done {f : Nat → Bool} {i p : Nat} (h : From f i p 0) : U f (64 * (i + 1)) = U f p := by
  obtain ⟨_, h1, h2, h3⟩ := h
  have := U_skip (f := f) (p := p) (64 * (i + 1) - p) (fun y g1 g2 => by
    have := h3 (y - 64 * i) (by omega)
    rw [show 64 * i + (y - 64 * i) = y by omega] at this
    simpa [g1] using this)
  rwa [show p + (64 * (i + 1) - p) = 64 * (i + 1) by omega] at this

theorem ctz_bit {x : Nat} (hx : x < 18446744073709551616) (h0 : x ≠ 0) : Lib.ctz 64 x < 64 ∧ x.testBit (Lib.ctz 64 x) = true ∧ ∀ j, j < Lib.ctz 64 x → x.testBit j = false := by
  obtain ⟨m, hm, hk⟩ := Lib.ctzFrom_spec 64 x (by omega) hx
  have e : Lib.ctz 64 x = Lib.ctzFrom 64 x := by simp [Lib.ctz, h0]
  rw [e]
  generalize Lib.ctzFrom 64 x = k at *
  subst hm
  refine ⟨hk, ?_, fun j hj => ?_⟩
  · rw [Nat.mul_comm, Nat.testBit_mul_two_pow]; simp
  · rw [Nat.mul_comm, Nat.testBit_mul_two_pow]; simp; omega

/-- x & (x - 1): the lowest bit is gone. -/
theorem and_pred {x : Nat} (hx : x < 18446744073709551616) (h0 : x ≠ 0) (j : Nat) : (x &&& (x - 1)).testBit j = (x.testBit j && decide (j ≠ Lib.ctz 64 x)) := by
  obtain ⟨m, hm, hk⟩ := Lib.ctzFrom_spec 64 x (by omega) hx
  have e : Lib.ctz 64 x = Lib.ctzFrom 64 x := by simp [Lib.ctz, h0]
  rw [e]
  generalize Lib.ctzFrom 64 x = k at *
  have hpow : 0 < 2 ^ k := Nat.two_pow_pos k
  have e1 : x = 2 ^ k * (2 * m + 1) + 0 := by omega
  have e2 : x - 1 = 2 ^ k * (2 * m) + (2 ^ k - 1) := by
    rw [hm, Nat.mul_add, Nat.mul_one]; omega
  rw [Nat.testBit_and, e2]
  conv => lhs; lhs; rw [e1]
  conv => rhs; lhs; rw [e1]
  rw [Nat.testBit_two_pow_mul_add _ hpow, Nat.testBit_two_pow_mul_add _ (by omega : 2 ^ k - 1 < 2 ^ k)]
  by_cases hj : j < k
  · simp [hj]
  · rw [if_neg hj, if_neg hj]
    by_cases hjk : j = k
    · subst hjk; simp
    · obtain ⟨d, hd⟩ : ∃ d, j - k = d + 1 := ⟨j - k - 1, by omega⟩
      rw [hd, Nat.testBit_succ, Nat.testBit_succ, show (2 * m + 1) / 2 = m by omega, show 2 * m / 2 = m by omega]
      simp [hjk]

theorem From.next {f : Nat → Bool} {i p x : Nat} (h : From f i p x) (hi : i < 4) (h0 : x ≠ 0) :
    ∃ hb : 64 * i + Lib.ctz 64 x < 256, U f (64 * i + Lib.ctz 64 x + 1) = U f p ++ [⟨64 * i + Lib.ctz 64 x, hb⟩] ∧ From f i (64 * i + Lib.ctz 64 x + 1) (x &&& (x - 1)) := by
  obtain ⟨h1, h2, h3, h4⟩ := h
  obtain ⟨c1, c2, c3⟩ := ctz_bit h1 h0
  have hb : 64 * i + Lib.ctz 64 x < 256 := by omega
  have hc := h4 _ c1
  rw [c2] at hc
  simp at hc
  refine ⟨hb, U_next hb hc.2 hc.1 (fun y g1 g2 => ?_), ?_⟩
  · have := h4 (y - 64 * i) (by omega)
    rw [c3 _ (by omega), show 64 * i + (y - 64 * i) = y by omega] at this
    simpa [g1] using this
  · refine ⟨Nat.lt_of_le_of_lt Nat.and_le_left h1, by omega, by omega, fun j hj => ?_⟩
    rw [and_pred h1 h0]
    rcases Nat.lt_trichotomy j (Lib.ctz 64 x) with hlt | rfl | hgt
    · have e : ¬ 64 * i + Lib.ctz 64 x + 1 ≤ 64 * i + j := by omega
      rw [c3 j hlt]; simp [e]
    · have e : ¬ 64 * i + Lib.ctz 64 x + 1 ≤ 64 * i + Lib.ctz 64 x := by omega
      simp [e]
    · have e : 64 * i + Lib.ctz 64 x + 1 ≤ 64 * i + j := by omega
      have e2 : p ≤ 64 * i + j := by omega
      have e3 : ¬ j = Lib.ctz 64 x := by omega
      rw [h4 j hj]; simp [e, e2, e3]

theorem From.next' {f : Nat → Bool} {i p x : Nat} (h : From f i p x) (hi : i < 4) (h0 : x ≠ 0) :
    ∃ (y : Nat) (hb : y < 256), (i : Int) * 64 + ((Lib.ctz 64 x : Nat) : Int) = (y : Int) ∧ U f (y + 1) = U f p ++ [⟨y, hb⟩] ∧ From f i (y + 1) (x &&& (x - 1)) := by
  obtain ⟨hb, h1, h2⟩ := h.next hi h0
  exact ⟨_, hb, by omega, h1, h2⟩

theorem TabAt.below {n₀ : Nat} {W W' : World} {tab : List Nat} (h : TabAt 0 tab W) (hB : Below n₀ W W') (hn : 0 < n₀) : TabAt 0 tab W' := fun j hj => (hB.cell (p := ⟨0, j, none⟩) hn).trans (h j hj)

theorem pred_and (x : Nat) (hx : x < 18446744073709551616) (h0 : x ≠ 0) : bits .and .u64 (x : Int) ((x : Int) - 1) = ((x &&& (x - 1) : Nat) : Int) := by
  rw [u64_and x (x - 1) hx (by omega) x _ rfl (by omega)]

set_option maxRecDepth 100000 in
set_option maxHeartbeats 4000000 in
/-- **each's closure: the set's bytes, rising: for every loop body that keeps what lay below n₀.** -/
theorem each1_in (n : Nat) (hn : 1 ≤ n) (l Bn n₀ : Nat) (hn0 : 0 < n₀) (f : Nat → Bool) (J Jx : List (Fin 256) → World → Prop)
    (hY : ∀ pre x W, J pre W → pre.length < 256 → YieldAt Fence.wide (n - 1) Tryd.prog l #[.int .u8 (x.1 : Int)] W fun e W' =>
      (e = .returned (.bool true) ∧ J (pre ++ [x]) W' ∧ Below n₀ W W') ∨ (e = .returned (.bool false) ∧ Jx (pre ++ [x]) W'))
    (W : World) (hT : TabAt 0 Lib.deBruijn64tab W) (hF : FourS W Bn f) (h0 : J [] W) :
    CallsIn Fence.wide n Tryd.prog 71 #[.func (.yield l) #[] #[], .pointer (some ⟨Bn, 0, none⟩)] W fun e W' => (∃ v, e = .returned v) ∧
      ((∃ ys, ys = U f 256 ∧ J ys W') ∨ (∃ pre, True ∧ Jx pre W')) := by
  have hFc0 := hF.c0; have hFc1 := hF.c1; have hFc2 := hF.c2; have hFc3 := hF.c3
  refine callsIn_of_wp Tryd.func71 rfl trivial ?_ rfl
  simp only [Tryd.ntmps71, List.size_toArray, List.length_cons, List.length_nil, Nat.reduceAdd, Nat.reduceSub, Array.replicate_succ, Array.replicate_zero, List.push_toArray, List.append_toArray, List.nil_append, List.cons_append]
  gi_wp2
  gi_loopw [6] (fun i wr => ∃ k : Nat, k ≤ 4 ∧ i = .int .i64 k ∧ J (U f (64 * k)) wr ∧ Below n₀ W wr)
    (fun i _ => 4 - (intOf i).toNat)
  case atStart => exact ⟨0, by omega, rfl, h0, Below.refl _ _⟩
  case round =>
    obtain ⟨k, hk, rfl, hJ, hB⟩ := hrel
    have hx : k < 4 → ∀ w : World, (Instr.index 39 (.agg #[.int .u64 (wd f 0), .int .u64 (wd f 1), .int .u64 (wd f 2), .int .u64 (wd f 3)]) (.int .i64 k)).run Tryd.prog w = .ok (.int .u64 (wd f k)) w := fun hk4 w => by
      rcases (by omega : k = 0 ∨ k = 1 ∨ k = 2 ∨ k = 3) with rfl | rfl | rfl | rfl
      · exact idx0 _ _ _ _ w
      · exact idx1 _ _ _ _ w
      · exact idx2 _ _ _ _ w
      · exact idx3 _ _ _ _ w
    by_cases hlt : k < 4
    · have hx' := hx hlt
      clear hx
      gi_wp2
      have hdec : decide ((k : Int) < 4) = true := by simp; omega
      simp only [hdec]
      clear hdec
      gi_loopw [4] (fun v ws => ∃ p x : Nat, v = .int .u64 x ∧ From f k p x ∧ J (U f p) ws ∧ Below n₀ W ws) (fun v _ => (intOf v).toNat)
      case atStart => exact ⟨64 * k, wd f k, rfl, From.start f k, hJ, hB⟩
      case round =>
        clear hJ hB
        obtain ⟨p, x, rfl, hfr, hJ, hB⟩ := hrel
        have hxl := hfr.1
        by_cases hx0 : x = 0
        · subst hx0
          have hd := hfr.done
          clear hxl hfr
          gi_wp2
          go_roundw
          case rel => exact ⟨k + 1, by omega, by simp, by rw [hd]; exact hJ, hB⟩
          case measure => simp [intOf]; omega
        · obtain ⟨y, hb, hsum, hU, hfr'⟩ := hfr.next' hlt hx0
          have hpl : (U f p).length < 256 := by
            have h1 := U_length f (y + 1) (by omega)
            have h2 := cnt_le f (y + 1)
            rw [hU] at h1
            simp at h1
            omega
          obtain ⟨fn, tmps, assign, body, hy, hR⟩ := hY (U f p) ⟨y, hb⟩ wr hJ hpl
          have htz := tz_c x hxl hx0 wr (TabAt.below hT hB hn0)
          have Htz := Lib.hid htz
          have hpa := pred_and x hxl hx0
          have hxp : x &&& (x - 1) < x := Nat.lt_of_le_of_lt Nat.and_le_right (by omega)
          dsimp only at hy
          have HU := Lib.hid hU
          have HF := Lib.hid hfr'
          have hz : ((x : Int) == 0) = false := by simp; omega
          clear htz hU hfr' hfr
          gi_wp2_with ((try refine ⟨trivial, ?_⟩); gi_at_call 72; refine (callsIn_wide.2 Htz.out).mono ?_; rintro e w' ⟨rfl, rfl⟩)
          refine hR.mono ?_
          rintro e W3 (⟨rfl, hJ3, hk3⟩ | ⟨rfl, hJx3⟩)
          · gi_wp2
            go_roundw
            case rel => exact ⟨y + 1, x &&& (x - 1), rfl, HF.out, by rw [HU.out]; exact hJ3, hB.trans hk3⟩
            case measure => simp only [intOf, Array.getD]; simp; omega
          · gi_wp2
            refine bodyPost_ret (results_none rfl _ _ _) rfl ?_
            exact ⟨⟨_, rfl⟩, .inr ⟨_, trivial, hJx3⟩⟩
    · obtain rfl : k = 4 := by omega
      gi_wp2
      go_end0
      exact ⟨⟨_, rfl⟩, .inl ⟨_, rfl, hJ⟩⟩

/-- **each(s) hands back a value that ranges over the set's bytes, rising.** -/
theorem each_stops (n : Nat) (hn : 1 ≤ n) (Bn n₀ : Nat) (hn0 : 0 < n₀) (f : Nat → Bool) (w : World) (hT : TabAt 0 Lib.deBruijn64tab w) (hF : FourS w Bn f) (hlt : Bn < w.heap.size) (h0 : 0 < w.heap.size) :
    SeqStopsK Fence.wide n Tryd.prog 71 #[.pointer (some ⟨Bn, 0, none⟩)] (fun x : Fin 256 => #[Value.int .u8 (x.1 : Int)]) (Below n₀) (fun ys => ys = U f 256) (fun _ => True) 256 w := fun l J Jx W hW _ _ hY h00 =>
  each1_in n hn l Bn n₀ hn0 f J Jx hY W (TabAt.below hT hW h0) (hF.below hW hlt) h00

theorem Four.kept {A B : World} {row : Option Nat} {b : Nat} {t : TypeId} {v0 v1 v2 v3 : Value} (h : Four A b t v0 v1 v2 v3) (hg : A.grownBy B row) (hr : ∀ r, row = some r → ∃ o, A.heap[r]? = some o ∧ o.isCells = false) : Four B b t v0 v1 v2 v3 := by
  refine ⟨(hg.block b h.lt (fun e => ?_)).trans h.heap⟩
  obtain ⟨o, ho, hc⟩ := hr b e.symm
  rw [h.heap] at ho; cases ho; cases hc

/-- The set, and of each letter in it the other one too. -/
def foldF (f : Nat → Bool) (i : Nat) : Bool := f i || f (oth i)

theorem keeps_of_below {B : Nat} {W w1 : World} (h : Below W.heap.size W w1) : KeepsFrom B W w1 := ⟨h.size, fun k o _ hk _ => (h.block k (Array.getElem?_eq_some_iff.1 hk).1).trans hk⟩
theorem keeps4 (B : Nat) {W w1 : World} (h : Below W.heap.size W w1) (b : Nat) (u0 u1 u2 u3 : Value) : KeepsFrom B W ((((w1.setCell ⟨b, 0, none⟩ u0).setCell ⟨b, 1, none⟩ u1).setCell ⟨b, 2, none⟩ u2).setCell ⟨b, 3, none⟩ u3) :=
  ((((keeps_of_below h).trans ((KeepsOthers.setCell _ _ _).from _)).trans ((KeepsOthers.setCell _ _ _).from _)).trans ((KeepsOthers.setCell _ _ _).from _)).trans ((KeepsOthers.setCell _ _ _).from _)

theorem keepsO4 (W : World) (b : Nat) (u0 u1 u2 u3 : Value) : KeepsOthers W ((((W.setCell ⟨b, 0, none⟩ u0).setCell ⟨b, 1, none⟩ u1).setCell ⟨b, 2, none⟩ u2).setCell ⟨b, 3, none⟩ u3) :=
  (((KeepsOthers.setCell _ _ _).trans (KeepsOthers.setCell _ _ _)).trans (KeepsOthers.setCell _ _ _)).trans (KeepsOthers.setCell _ _ _)

theorem oth_lt {b : Nat} (h : b < 256) : oth b < 256 := by
  by_cases h1 : 65 ≤ b ∧ b ≤ 90
  · rw [oth, if_pos h1]; omega
  · by_cases h2 : 97 ≤ b ∧ b ≤ 122
    · rw [oth, if_neg h1, if_pos h2]; omega
    · rw [oth, if_neg h1, if_neg h2]; exact h

set_option maxRecDepth 100000 in
set_option maxHeartbeats 4000000 in
theorem fold_in (f : Nat → Bool) (w : World) (hT : TabAt 0 Lib.deBruijn64tab w) (hw : 0 < w.heap.size) :
    CallsIn Fence.wide 5 Tryd.prog 33 #[sv f] w fun e w' => e = .returned (sv fun i => f i || (U f 256).any fun x => i == oth x.1) ∧ Below w.heap.size w w' := by
  have HE := Lib.hid (fun w => each_in f w)
  have HO := Lib.hid (fun b hb w => other_c b hb w)
  have HW := Lib.hid (fun g b hb w => with_c g b hb w)
  unfold sv at HE ⊢
  refine callsIn_of_wp_marks Tryd.func33 rfl trivial ?_ rfl
  simp only [Tryd.ntmps33, List.size_toArray, List.length_cons, List.length_nil, Nat.reduceAdd, Nat.reduceSub, Array.replicate_succ, Array.replicate_zero, List.push_toArray, List.append_toArray, List.nil_append, List.cons_append]
  gi_wp2_with ((try refine ⟨trivial, ?_⟩); gi_at_call 58; refine (callsIn_wide.2 (HE.out _)).mono ?_; rintro e w' ⟨rfl, rfl⟩)
  obtain ⟨W0, hW0⟩ : ∃ W0, W0 = ((((w.alloc (.cells #[.int .u64 (wd f 0), .int .u64 (wd f 1), .int .u64 (wd f 2), .int .u64 (wd f 3)] 39)).alloc (.cells #[.int .u64 0, .int .u64 0, .int .u64 0, .int .u64 0] 39)).alloc (.cells #[.int .u64 (wd f 0), .int .u64 (wd f 1), .int .u64 (wd f 2), .int .u64 (wd f 3)] 39)).alloc (.cells #[.int .u64 (wd f 0), .int .u64 (wd f 1), .int .u64 (wd f 2), .int .u64 (wd f 3)] 39)) := ⟨_, rfl⟩
  rw [← hW0]
  have hsz : W0.heap.size = w.heap.size + 4 := by rw [hW0]; simp
  have hBW : Below w.heap.size w W0 := by
    rw [hW0]; exact ((((Below.refl _ w).alloc (by simp) _).alloc (by simp) _).alloc (by simp; omega) _).alloc (by simp; omega) _
  have fA : FourS W0 (w.heap.size + 1) (fun _ => false) := by
    rw [hW0]; refine FourS.zero ?_ (fun _ _ => rfl)
    have := Four.new (w.alloc (.cells #[.int .u64 (wd f 0), .int .u64 (wd f 1), .int .u64 (wd f 2), .int .u64 (wd f 3)] 39)) 39 (.int .u64 0) (.int .u64 0) (.int .u64 0) (.int .u64 0)
    rw [World.size_alloc] at this
    exact (this.alloc _).alloc _
  have fL : FourS W0 (w.heap.size + 1 + 1) f := by
    rw [hW0]
    have := Four.new ((w.alloc (.cells #[.int .u64 (wd f 0), .int .u64 (wd f 1), .int .u64 (wd f 2), .int .u64 (wd f 3)] 39)).alloc (.cells #[.int .u64 0, .int .u64 0, .int .u64 0, .int .u64 0] 39)) 39 (.int .u64 (wd f 0)) (.int .u64 (wd f 1)) (.int .u64 (wd f 2)) (.int .u64 (wd f 3))
    rw [World.size_alloc, World.size_alloc] at this
    exact this.alloc _
  have fE : FourS W0 (w.heap.size + 1 + 1 + 1) f := by
    rw [hW0]
    have := Four.new (((w.alloc (.cells #[.int .u64 (wd f 0), .int .u64 (wd f 1), .int .u64 (wd f 2), .int .u64 (wd f 3)] 39)).alloc (.cells #[.int .u64 0, .int .u64 0, .int .u64 0, .int .u64 0] 39)).alloc (.cells #[.int .u64 (wd f 0), .int .u64 (wd f 1), .int .u64 (wd f 2), .int .u64 (wd f 3)] 39)) 39 (.int .u64 (wd f 0)) (.int .u64 (wd f 1)) (.int .u64 (wd f 2)) (.int .u64 (wd f 3))
    rw [World.size_alloc, World.size_alloc, World.size_alloc] at this
    exact this
  clear hW0
  refine wpIn_rangeFunc_ownG rfl (by omega) (gf := 71) (lb := #[.pointer (some ⟨w.heap.size + 1 + 1 + 1, 0, none⟩)]) rfl trivial (enters_of Tryd.func71 (by kernel_rfl) rfl)
    (each_stops (5 - 1) (by omega) (w.heap.size + 1 + 1 + 1) w.heap.size hw f W0 (TabAt.below hT hBW hw) fE (by omega) (by omega)) belowK_t (belowK_b (by omega)) (Below.refl _ _) (fun _ => rfl)
    (fun pre W => (FourS W (w.heap.size + 1) (fun _ => false) ∧ FourS W (w.heap.size + 1 + 1) (fun i => f i || pre.any fun x => i == oth x.1)) ∧ Below w.heap.size w W)
    (fun _ _ _ => False)
    (OwnFrom.and (Own.from (fun s A B row hs hg hr => ⟨Four.kept hs.1 hg hr, Four.kept hs.2 hg hr⟩) _) (ownFrom_below (Nat.le_refl _) (by omega)))
    (fun _ _ _ _ _ hs _ _ => hs)
    ⟨⟨fA, by simpa using fL⟩, hBW⟩
    (fun x => { tmps := #[.agg #[.int .u64 (wd f 0), .int .u64 (wd f 1), .int .u64 (wd f 2), .int .u64 (wd f 3)], .pointer (some ⟨w.heap.size, 0, none⟩), .pointer (some ⟨w.heap.size + 1, 0, none⟩), .pointer (some ⟨w.heap.size + 1 + 1, 0, none⟩), .int .u8 (x.1 : Int), .agg #[.int .u64 (wd f 0), .int .u64 (wd f 1), .int .u64 (wd f 2), .int .u64 (wd f 3)], .agg #[.int .u64 (wd f 0), .int .u64 (wd f 1), .int .u64 (wd f 2), .int .u64 (wd f 3)], .func (.func 71) #[] #[.pointer (some ⟨w.heap.size + 1 + 1 + 1, 0, none⟩)], .int .u8 (x.1 : Int), undef, undef, undef, undef, undef], defers := [] }) ?assign ?body ?done ?stop
  case assign =>
    intro l x W K hK
    gi_wp2
    exact hK
  case body =>
    rintro l pre x W ⟨⟨h0, h1⟩, hB⟩ hlt
    have h1c0 := h1.c0; have h1c1 := h1.c1; have h1c2 := h1.c2; have h1c3 := h1.c3
    have h1f0 := h1.fz 0; have h1f1 := h1.fz 1; have h1f2 := h1.fz 2; have h1f3 := h1.fz 3
    have hx := x.2
    have hmx : Tryd.prog.follows .mixedOrders = true := by kernel_rfl
    gi_wp2
    gi_region_with_o (first
      | (refine ⟨trivial, ?_⟩; gi_at_call 59; refine (CallsIn.inRound l (callsIn_wide.2 (HO.out _ hx _))).mono ?_; rintro e w' ⟨rfl, rfl⟩)
      | (refine ⟨trivial, ?_⟩; gi_at_call 36; refine (CallsIn.inRound l (callsIn_wide.2 (HW.out _ _ (oth_lt hx) _))).mono ?_; rintro e w1 ⟨rfl, hB1⟩; have hB2 : Below W.heap.size W w1 := ((Below.refl _ W).drew).trans hB1; have g1 := h1.below hB2 h1.lt; have g0 := h0.below hB2 h0.lt; have g1c0 := g1.c0; have g1c1 := g1.c1; have g1c2 := g1.c2; have g1c3 := g1.c3; have g1f0 := g1.fz 0; have g1f1 := g1.fz 1; have g1f2 := g1.fz 2; have g1f3 := g1.fz 3; simp only [sv]))
    all_goals (
      gi_wp2
      have k4 := keeps4 W0.heap.size hB2 (w.heap.size + 1 + 1)
      have b4 := hB2.mono hB.size
      have q4 := FourS.set g1 (fun i => (f i || pre.any fun x => i == oth x.1) || i == oth x.1)
      have q5 := FourS.congr q4 (g := fun i => f i || (pre ++ [x]).any fun x => i == oth x.1) (fun i _ => by simp [Bool.or_assoc])
      first
        | exact ⟨k4 _ _ _ _, Below.set4 b4 (by omega) _ _ _ _, ⟨g0.set4_other (by omega) _ _ _ _, q5⟩, Below.set4 (hB.trans b4) (by omega) _ _ _ _⟩
        | exact ⟨(k4 _ _ _ _).trans ((KeepsOthers.drew _).from _), (Below.set4 b4 (by omega) _ _ _ _).drew, ⟨(g0.set4_other (by omega) _ _ _ _).drew, q5.drew⟩, (Below.set4 (hB.trans b4) (by omega) _ _ _ _).drew⟩)
  case done =>
    rintro D ys W hD rfl ⟨⟨h0, h1⟩, hB⟩ hK
    have h1c0 := h1.c0; have h1c1 := h1.c1; have h1c2 := h1.c2; have h1c3 := h1.c3
    have h0c0 := h0.c0; have h0c1 := h0.c1; have h0c2 := h0.c2; have h0c3 := h0.c3
    have h0f0 := h0.fz 0; have h0f1 := h0.fz 1; have h0f2 := h0.fz 2; have h0f3 := h0.fz 3
    gi_wp2
    have hK4 := (keepsO4 W (w.heap.size + 1) (.int .u64 (wd (fun i => f i || (U f 256).any fun x => i == oth x.1) 0)) (.int .u64 (wd (fun i => f i || (U f 256).any fun x => i == oth x.1) 1)) (.int .u64 (wd (fun i => f i || (U f 256).any fun x => i == oth x.1) 2)) (.int .u64 (wd (fun i => f i || (U f 256).any fun x => i == oth x.1) 3))).same D _ hK rfl
    have q := Four.kept (FourS.set h0 (fun i => f i || (U f 256).any fun x => i == oth x.1)) (grownBy_putObj' _ D (.deferred none)) (fun r e => by cases e; exact ⟨_, hK4, rfl⟩)
    have qc0 := q.c0; have qc1 := q.c1; have qc2 := q.c2; have qc3 := q.c3
    refine ⟨by simp, .inl ⟨_, _, rfl, run_takeDeferred hK4, ?_⟩⟩
    refine ⟨sv (fun i => f i || (U f 256).any fun x => i == oth x.1), by simp [results, Tryd.results33, go_sem, qc0, qc1, qc2, qc3, sv], rfl, ?_⟩
    exact (Below.set4 hB (by omega) _ _ _ _).trans (belowK_b (w := w) (Nat.le_refl _) _ D _ _ (by omega) hK4 rfl rfl)
  case stop =>
    rintro D c pre W _ _ h _
    exact h.elim

theorem oth_oth (b : Nat) (hb : b < 256) : oth (oth b) = b := by
  revert b
  decide +kernel

theorem mem_U (f : Nat → Bool) : ∀ p, p ≤ 256 → ∀ x : Fin 256, x ∈ U f p ↔ (f x.1 = true ∧ x.1 < p)
  | 0, _, x => by simp [U]
  | p + 1, hp, x => by
    have ih := mem_U f p (by omega) x
    rw [U]
    by_cases h : p < 256 ∧ f p = true
    · rw [dif_pos h, List.mem_append, ih]
      constructor
      · rintro (⟨h1, h2⟩ | h1)
        · exact ⟨h1, by omega⟩
        · simp at h1; subst h1; exact ⟨h.2, by simp⟩
      · rintro ⟨h1, h2⟩
        by_cases e : x.1 = p
        · right; simp; exact Fin.ext e
        · left; exact ⟨h1, by omega⟩
    · rw [dif_neg h, ih]
      constructor
      · rintro ⟨h1, h2⟩; exact ⟨h1, by omega⟩
      · rintro ⟨h1, h2⟩
        refine ⟨h1, ?_⟩
        have : x.1 ≠ p := fun e => h ⟨by omega, by rw [← e]; exact h1⟩
        omega

/-- **Fold: the set, and of each letter in it the other one too.** -/
theorem fold_c (f : Nat → Bool) (w : World) (hT : TabAt 0 Lib.deBruijn64tab w) (hw : 0 < w.heap.size) :
    Calls Tryd.prog 33 #[sv f] w fun e w' => e = .returned (sv (foldF f)) ∧ Below w.heap.size w w' := by
  refine (callsIn_wide (n := 5)).1 ((fold_in f w hT hw).mono ?_)
  rintro e w' ⟨rfl, h⟩
  refine ⟨congrArg Ending.returned (sv_congr fun i hi => ?_), h⟩
  unfold foldF
  congr 1
  rw [Bool.eq_iff_iff, List.any_eq_true]
  constructor
  · rintro ⟨x, hx, he⟩
    rw [mem_U f 256 (Nat.le_refl _)] at hx
    simp at he
    rw [he, oth_oth _ x.2]
    exact hx.1
  · intro h
    exact ⟨⟨oth i, oth_lt hi⟩, (mem_U f 256 (Nat.le_refl _) _).2 ⟨h, oth_lt hi⟩, by simp [oth_oth i hi]⟩

end Go.Proofs.YtfkidgbjjlgjdaaDoor
