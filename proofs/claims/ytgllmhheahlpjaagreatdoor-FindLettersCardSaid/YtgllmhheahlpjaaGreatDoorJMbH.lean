/- match: sets of groups, as words of bits. Of no program. -/
import Derived.Test.YtgllmhheahlpjaaGreatDoorJMbB
import Derived.Test.YtgllmhheahlpjaaGreatDoorJMaD
import Derived.Laws.BitsAllLaws
set_option linter.unusedVariables false
set_option linter.unusedSimpArgs false
set_option maxRecDepth 100000
set_option maxHeartbeats 40000000
namespace Go.Proofs.YtgllmhheahlpjaaGreatDoor
open Go.RowKit Go.Lib
def gw (G : Gs) : Nat := pack G 10
theorem gw_lt (G : Gs) : gw G < 1024 := pack_lt G 10
theorem gw_bit (G : Gs) (i : Nat) : (gw G).testBit i = (decide (i < 10) && G i) := testBit_pack G 10 i
theorem gw_ext {G : Gs} {x : Nat} (hx : x < 1024) (h : ∀ i, i < 10 → x.testBit i = G i) : x = gw G := pack_ext hx h
theorem gw_congr {G H : Gs} (h : ∀ i, i < 10 → G i = H i) : gw G = gw H := pack_congr h
theorem gw_or (G H : Gs) : bits .or .u16 (gw G : Int) (gw H : Int) = (gw (fun g => G g || H g) : Int) := by
 have h1 := gw_lt G
 have h2 := gw_lt H
 rw [u16_or_nat _ _ (by omega) (by omega)]
 refine congrArg (fun x : Nat => (x : Int)) (gw_ext (Nat.or_lt_two_pow (n := 10) h1 h2) fun i hi => ?_)
 rw [Nat.testBit_or, gw_bit, gw_bit, decide_eq_true hi, Bool.true_and, Bool.true_and]
theorem gw_and (G H : Gs) : bits .and .u16 (gw G : Int) (gw H : Int) = (gw (fun g => G g && H g) : Int) := by
 have h1 := gw_lt G
 have h2 := gw_lt H
 rw [u16_and_nat _ _ (by omega) (by omega)]
 refine congrArg (fun x : Nat => (x : Int)) (gw_ext (Nat.lt_of_le_of_lt Nat.and_le_left h1) fun i hi => ?_)
 rw [Nat.testBit_and, gw_bit, gw_bit, decide_eq_true hi, Bool.true_and, Bool.true_and]
theorem gw_not (G H : Gs) : bits .andNot .u16 (gw G : Int) (gw H : Int) = (gw (fun g => G g && !H g) : Int) := by
 have h1 := gw_lt G
 have h2 := gw_lt H
 rw [u16_andNot_nat _ _ (by omega) (by omega)]
 refine congrArg (fun x : Nat => (x : Int)) (gw_ext (Nat.lt_of_le_of_lt Nat.and_le_left h1) fun i hi => ?_)
 have e : 65535 - gw H = 2 ^ 16 - (gw H + 1) := by omega
 rw [Nat.testBit_and, gw_bit, e, Nat.testBit_two_pow_sub_succ (by omega), gw_bit, decide_eq_true hi, decide_eq_true (show i < 16 by omega), Bool.true_and, Bool.true_and, Bool.true_and]
theorem pow_lt10 {n : Nat} (h : n < 10) : (2 : Nat) ^ n < 1024 := Nat.pow_lt_pow_right (a := 2) (m := n) (n := 10) (by decide) h
theorem gw_one {n : Nat} (h : n < 10) : IntKind.u16.wrap (2 ^ n) = (gw (fun g => decide (n = g)) : Int) := by
 have h2 := pow_lt10 h
 have e : ((2 : Int) ^ n) = (((2 : Nat) ^ n : Nat) : Int) := by simp
 rw [e, IntKind.wrap_u16]
 have e2 : 2 ^ n = gw (fun g => decide (n = g)) := gw_ext h2 fun i hi => by rw [Nat.testBit_two_pow]
 rw [← e2]
 omega
theorem gw_has (G : Gs) {n : Nat} (h : n < 10) : bits .and .u16 ((gw G : Int) / 2 ^ n) 1 = ((G n).toNat : Int) := by
 have h1 := gw_lt G
 have e : ((gw G : Int) / 2 ^ n) = ((gw G / 2 ^ n : Nat) : Int) := by simp
 have hle : gw G / 2 ^ n ≤ gw G := Nat.div_le_self _ _
 rw [e, show (1 : Int) = ((1 : Nat) : Int) from rfl, u16_and_nat _ _ (by omega) (by omega), and1]
 have hb := gw_bit G n
 rw [decide_eq_true h, Bool.true_and, Nat.testBit_eq_decide_div_mod_eq] at hb
 rw [← hb]
 have : gw G / 2 ^ n % 2 = 0 ∨ gw G / 2 ^ n % 2 = 1 := by omega
 rcases this with q | q <;> simp [q]
theorem gw_zero {G : Gs} : gw G = 0 ↔ noG G = true := by
 rw [noG_iff]
 constructor
 ·intro h g hg
  have := gw_bit G g
  rw [h, Nat.zero_testBit, decide_eq_true hg, Bool.true_and] at this
  exact this.symm
 ·intro h
  refine (gw_ext (x := 0) (by omega) fun i hi => ?_).symm
  rw [Nat.zero_testBit, h i hi]
theorem gw_disj {G H : Gs} : gw (fun g => G g && H g) = 0 ↔ disj G H = true := by
 rw [gw_zero, noG_iff, disj_iff]
 constructor
 ·intro h g hg q
  have := h g hg
  rw [q.1, q.2] at this
  cases this
 ·intro h g hg
  cases ha : G g with
  | false => rfl
  | true =>
   cases hb : H g with
   | false => rfl
   | true => exact absurd ⟨ha, hb⟩ (h g hg)
theorem gw_none : gw (fun _ => false) = 0 := gw_zero.2 (noG_iff.2 fun _ _ => rfl)
end Go.Proofs.YtgllmhheahlpjaaGreatDoor
namespace Go.Proofs.YtgllmhheahlpjaaGreatDoor
open Go.RowKit Go.Lib
theorem cnt_ok {m M : Int} (h : isCnt m M = true) : 0 ≤ m ∧ (M = -1 ∨ (0 : Int) ≤ M) ∧ (M = -1 ∨ m ≤ M) := by
 unfold isCnt at h
 split at h
 ·cases h
 ·have := of_decide_eq_true h
  omega
def wholeC (s : List UInt8) (t : T) (i j : Nat) : Cp := fun g => if g = 0 then some (i, j) else (semT s t).leave i j (fun _ => none) g
end Go.Proofs.YtgllmhheahlpjaaGreatDoor
namespace Go.Proofs.YtgllmhheahlpjaaGreatDoor
open Go.RowKit Go.Lib
def anyNd : Nd := ⟨-1, 0, 0, 0, 0, 0, 0, 0, 0, 0⟩
def lnd (x : Nd) : Nd := if x.kind = 8 then anyNd else x
theorem loosen_size : ∀ t : T, (loosen t).size = t.size
 | .leaf x => by
  unfold loosen
  split <;> rfl
 | .two k a b => by simp only [loosen, T.size, loosen_size a, loosen_size b]
 | .times m M t => by simp only [loosen, T.size, loosen_size t]
 | .group n t => by simp only [loosen, T.size, loosen_size t]
def T.Lok : T → Prop
 | .leaf x => x.kind = -1 ∨ x.kind = 0 ∨ x.kind = 1 ∨ x.kind = 2 ∨ x.kind = 3 ∨ (x.kind = 8 ∧ 1 ≤ x.n ∧ x.n ≤ 9)
 | .two k a b => (k = 4 ∨ k = 5) ∧ a.Lok ∧ b.Lok
 | .times m M t => isCnt m M = true ∧ t.Lok
 | .group n t => isNum n = true ∧ t.Lok
theorem ok_lok : ∀ t : T, t.Ok → t.Lok
 | .leaf x, ⟨h, hk⟩ => by
  rcases hk with k | k | k | k | k
  ·exact .inr (.inl k)
  ·exact .inr (.inr (.inl k))
  ·exact .inr (.inr (.inr (.inl k)))
  ·exact .inr (.inr (.inr (.inr (.inl k))))
  ·refine .inr (.inr (.inr (.inr (.inr ⟨k, ?_⟩))))
   unfold isNd at h
   rw [if_neg (by omega), if_neg (by omega), if_neg (by omega), if_neg (by omega), if_neg (by omega), if_pos k, Bool.and_eq_true] at h
   exact of_decide_eq_true h.1
 | .two k a b, ⟨h, h1, h2⟩ => ⟨h, ok_lok a h1, ok_lok b h2⟩
 | .times m M t, ⟨h1, h2⟩ => ⟨h1, ok_lok t h2⟩
 | .group n t, ⟨h1, h2⟩ => ⟨h1, ok_lok t h2⟩
theorem loosen_lok : ∀ t : T, t.Lok → (loosen t).Lok
 | .leaf x, h => by
  unfold loosen
  split
  ·exact .inl rfl
  ·exact h
 | .two k a b, ⟨h, h1, h2⟩ => ⟨h, loosen_lok a h1, loosen_lok b h2⟩
 | .times m M t, ⟨h1, h2⟩ => ⟨h1, loosen_lok t h2⟩
 | .group n t, ⟨h1, h2⟩ => ⟨h1, loosen_lok t h2⟩
theorem lok_mok : ∀ t : T, t.Lok → MOk t ∧ MxOk t
 | .leaf x, h => by
  refine ⟨fun hk => ?_, trivial⟩
  rcases h with q | q | q | q | q | ⟨_, q1, q2⟩
  ·omega
  ·omega
  ·omega
  ·omega
  ·omega
  ·omega
 | .two k a b, ⟨_, h1, h2⟩ => ⟨⟨(lok_mok a h1).1, (lok_mok b h2).1⟩, (lok_mok a h1).2, (lok_mok b h2).2⟩
 | .times m M t, ⟨h1, h2⟩ => ⟨⟨(cnt_ok h1).1, (lok_mok t h2).1⟩, (cnt_ok h1).2.1, (lok_mok t h2).2⟩
 | .group n t, ⟨h1, h2⟩ => ⟨⟨by have := of_decide_eq_true h1; omega, (lok_mok t h2).1⟩, (lok_mok t h2).2⟩
def Sub (l : Nat → Option Nd) (t : T) (i : Nat) : Prop := t.Lok ∧ ∃ o, T.At l t o ∧ i + 1 = o + t.size
theorem Sub.node {l : Nat → Option Nd} {t : T} {i : Nat} (h : Sub l t i) : ∃ o, l i = some (t.root o) ∧ i + 1 = o + t.size := by
 obtain ⟨_, o, ha, e⟩ := h
 have := ha.root
 rw [show o + t.size - 1 = i by omega] at this
 exact ⟨o, this, e⟩
theorem Sub.two {l : Nat → Option Nd} {k : Int} {a b : T} {i : Nat} (h : Sub l (.two k a b) i) : ∃ (p q : Nat), l i = some ⟨k, 0, 0, 0, 0, (p : Int), (q : Int), 0, 0, 0⟩ ∧ Sub l a p ∧ Sub l b q ∧ p < i ∧ q < i ∧ (k = 4 ∨ k = 5) := by
 obtain ⟨⟨hk, la, lb⟩, o, ⟨h1, h2, h3⟩, e⟩ := h
 have s1 := a.size_pos
 have s2 := b.size_pos
 simp only [T.size] at e
 refine ⟨o + a.size - 1, o + a.size + b.size - 1, ?_, ⟨la, o, h1, by omega⟩, ⟨lb, o + a.size, h2, by omega⟩, by omega, by omega, hk⟩
 rw [show i = o + a.size + b.size by omega, h3]
 simp only [T.root]
 rw [show (((o + a.size - 1 : Nat) : Int)) = (o : Int) + a.size - 1 by omega, show (((o + a.size + b.size - 1 : Nat) : Int)) = (o : Int) + a.size + b.size - 1 by omega]
theorem Sub.times {l : Nat → Option Nd} {m M : Int} {t : T} {i : Nat} (h : Sub l (.times m M t) i) : ∃ p : Nat, l i = some ⟨6, 0, 0, 0, 0, (p : Int), 0, m, M, 0⟩ ∧ Sub l t p ∧ p < i ∧ isCnt m M = true := by
 obtain ⟨⟨hk, la⟩, o, ⟨h1, h3⟩, e⟩ := h
 have s1 := t.size_pos
 simp only [T.size] at e
 refine ⟨o + t.size - 1, ?_, ⟨la, o, h1, by omega⟩, by omega, hk⟩
 rw [show i = o + t.size by omega, h3]
 simp only [T.root]
 rw [show (((o + t.size - 1 : Nat) : Int)) = (o : Int) + t.size - 1 by omega]
theorem Sub.group {l : Nat → Option Nd} {n : Int} {t : T} {i : Nat} (h : Sub l (.group n t) i) : ∃ p : Nat, l i = some ⟨7, 0, 0, 0, 0, (p : Int), 0, 0, 0, n⟩ ∧ Sub l t p ∧ p < i ∧ 1 ≤ n ∧ n ≤ 9 := by
 obtain ⟨⟨hk, la⟩, o, ⟨h1, h3⟩, e⟩ := h
 have s1 := t.size_pos
 simp only [T.size] at e
 refine ⟨o + t.size - 1, ?_, ⟨la, o, h1, by omega⟩, by omega, of_decide_eq_true hk⟩
 rw [show i = o + t.size by omega, h3]
 simp only [T.root]
 rw [show (((o + t.size - 1 : Nat) : Int)) = (o : Int) + t.size - 1 by omega]
theorem Sub.leaf {l : Nat → Option Nd} {x : Nd} {i : Nat} (h : Sub l (.leaf x) i) : l i = some x := by
 obtain ⟨o, h1, h2⟩ := h.node
 exact h1
end Go.Proofs.YtgllmhheahlpjaaGreatDoor
namespace Go.Proofs.YtgllmhheahlpjaaGreatDoor
open Go.RowKit Go.Lib
theorem no_asks (s : List UInt8) : ∀ t : T, t.refs = 0 → ∀ g, (semT s t).asked g = false
 | .leaf x, h, g => by
  simp only [T.refs] at h
  by_cases hk : x.kind = 8
  ·rw [if_pos hk] at h; cases h
  ·show (decide (x.kind = 8) && decide (x.n.toNat = g)) = false
   rw [decide_eq_false hk]; rfl
 | .two k a b, h, g => by
  simp only [T.refs] at h
  have ha := no_asks s a (by omega) g
  have hb := no_asks s b (by omega) g
  by_cases hk : k = 4
  ·rw [show semT s (.two k a b) = catS s (semT s a) (semT s b) by rw [semT, if_pos hk]]
   show ((semT s a).asked g || ((semT s b).asked g && !(semT s a).always g)) = false
   rw [ha, hb]; rfl
  ·rw [show semT s (.two k a b) = altS (semT s a) (semT s b) by rw [semT, if_neg hk]]
   show ((semT s a).asked g || (semT s b).asked g) = false
   rw [ha, hb]; rfl
 | .times m M t, h, g => no_asks s t h g
 | .group n t, h, g => no_asks s t h g
end Go.Proofs.YtgllmhheahlpjaaGreatDoor
namespace Go.Proofs.YtgllmhheahlpjaaGreatDoor
open Go.RowKit
theorem ghas_c (G : Gs) (n : Nat) (hn : n < 10) (w : World) :
  Calls Tryz.prog 131 #[.int .u16 (gw G), .int .i64 n] w fun e w' => e = .returned (.bool (G n)) ∧ w' = w := by
 have hb := gw_has G hn
 obtain ⟨v, hv⟩ : ∃ v, v = G n := ⟨_, rfl⟩
 have HE : (bits BinOp.and IntKind.u16 ((gw G : Int) / 2 ^ n) 1 == 1) = v := by
  rw [hb, hv]
  cases G n <;> rfl
 rw [← hv]
 clear hb hv
 go_enter Tryz.func131, Tryz.ntmps131
 go_wp2
 go_ret
 exact ⟨rfl, rfl⟩
def roleV (S : Sem) : Value := .agg #[.int .u16 (gw S.asked), .int .u16 (gw S.always), .int .u16 (gw S.ever)]
structure RoleAt (w : World) (b j : Nat) (S : Sem) : Prop where
 c0 : w.cell? ⟨b, j * 3, none⟩ = some (.int .u16 (gw S.asked))
 c1 : w.cell? ⟨b, j * 3 + 1, none⟩ = some (.int .u16 (gw S.always))
 c2 : w.cell? ⟨b, j * 3 + 2, none⟩ = some (.int .u16 (gw S.ever))
def ndV (x : Nd) : Value := .agg #[.int .i64 x.kind, .int .u64 x.w0, .int .u64 x.w1, .int .u64 x.w2, .int .u64 x.w3, .int .i64 x.a, .int .i64 x.b, .int .i64 x.mn, .int .i64 x.mx, .int .i64 x.n]
theorem role_leaf (s : List UInt8) (x : Nd) (hL : T.Lok (.leaf x)) (b n cap : Nat) (w : World) :
  Calls Tryz.prog 129 #[ndV x, .slice (some ⟨b, 0, none⟩) n cap] w fun e w' => e = .returned (roleV (leafS s x)) ∧ Below w.heap.size w w' := by
 have hv : roleV (leafS s x) = .agg #[.int .u16 (gw (leafS s x).asked), .int .u16 0, .int .u16 0] := by
  unfold roleV leafS
  rw [gw_none]
  rfl
 rw [hv]
 clear hv
 obtain ⟨kd, w0, w1, w2, w3, xa, xb, m, M, xn⟩ := x
 have hzero : kd ≠ 8 → (gw (leafS s ⟨kd, w0, w1, w2, w3, xa, xb, m, M, xn⟩).asked : Int) = 0 := fun h => by
  have : gw (leafS s ⟨kd, w0, w1, w2, w3, xa, xb, m, M, xn⟩).asked = 0 := by
   rw [gw_zero, noG_iff]
   intro g _
   simp [leafS, h]
  rw [this]; rfl
 unfold ndV
 simp only
 simp only [T.Lok] at hL
 have HB := Lib.hid (((Below.refl w.heap.size w).alloc (Nat.le_refl _) (.cells (nA kd w0 w1 w2 w3 xa xb m M xn) 60)).alloc (by simp) (.cells #[.int .u16 0, .int .u16 0, .int .u16 0] 140))
 rcases hL with rfl | rfl | rfl | rfl | rfl | ⟨rfl, h1, h2⟩
 ·rw [hzero (by decide)]
  go_enter Tryz.func129, Tryz.ntmps129
  go_wp2
  refine bodyPost_ret (v := .agg #[.int .u16 0, .int .u16 0, .int .u16 0]) (by simp [results, Tryz.results129, go_sem]) rfl ⟨rfl, HB.out⟩
 ·rw [hzero (by decide)]
  go_enter Tryz.func129, Tryz.ntmps129
  go_wp2
  refine bodyPost_ret (v := .agg #[.int .u16 0, .int .u16 0, .int .u16 0]) (by simp [results, Tryz.results129, go_sem]) rfl ⟨rfl, HB.out⟩
 ·rw [hzero (by decide)]
  go_enter Tryz.func129, Tryz.ntmps129
  go_wp2
  refine bodyPost_ret (v := .agg #[.int .u16 0, .int .u16 0, .int .u16 0]) (by simp [results, Tryz.results129, go_sem]) rfl ⟨rfl, HB.out⟩
 ·rw [hzero (by decide)]
  go_enter Tryz.func129, Tryz.ntmps129
  go_wp2
  refine bodyPost_ret (v := .agg #[.int .u16 0, .int .u16 0, .int .u16 0]) (by simp [results, Tryz.results129, go_sem]) rfl ⟨rfl, HB.out⟩
 ·rw [hzero (by decide)]
  go_enter Tryz.func129, Tryz.ntmps129
  go_wp2
  refine bodyPost_ret (v := .agg #[.int .u16 0, .int .u16 0, .int .u16 0]) (by simp [results, Tryz.results129, go_sem]) rfl ⟨rfl, HB.out⟩
 ·obtain ⟨N, rfl⟩ := Int.eq_ofNat_of_zero_le (show 0 ≤ xn by omega)
  have hone := gw_one (n := N) (by omega)
  have hask : gw (leafS s ⟨8, w0, w1, w2, w3, xa, xb, m, M, (N : Int)⟩).asked = gw (fun g => decide (N = g)) := gw_congr fun g _ => by simp [leafS]
  rw [hask]
  generalize gw (fun g => decide (N = g)) = y at *
  clear hask hzero
  have hN : N < 10 := by omega
  have HB2 := Lib.hid (((Below.refl w.heap.size w).alloc (Nat.le_refl _) (.cells (nA 8 w0 w1 w2 w3 xa xb m M N) 60)).alloc (by simp) (.cells #[.int .u16 y, .int .u16 0, .int .u16 0] 140))
  go_enter Tryz.func129, Tryz.ntmps129
  go_wp2
  refine bodyPost_ret (v := .agg #[.int .u16 y, .int .u16 0, .int .u16 0]) (by simp [results, Tryz.results129, go_sem]) rfl ⟨rfl, HB2.out⟩
end Go.Proofs.YtgllmhheahlpjaaGreatDoor
namespace Go.Proofs.YtgllmhheahlpjaaGreatDoor
open Go.RowKit
theorem role_cat (b n cap p q z1 z2 z3 z4 z5 z6 y0 y1 y2 y3 : Nat) (hpn : p < n) (hqn : q < n) (hn : n ≤ 120) (w : World) (a0 : w.cell? ⟨b, p * 3, none⟩ = some (.int .u16 (z1 : Nat))) (a1 : w.cell? ⟨b, p * 3 + 1, none⟩ = some (.int .u16 (z2 : Nat))) (a2 : w.cell? ⟨b, p * 3 + 2, none⟩ = some (.int .u16 (z3 : Nat))) (b0 : w.cell? ⟨b, q * 3, none⟩ = some (.int .u16 (z4 : Nat))) (b1 : w.cell? ⟨b, q * 3 + 1, none⟩ = some (.int .u16 (z5 : Nat))) (b2 : w.cell? ⟨b, q * 3 + 2, none⟩ = some (.int .u16 (z6 : Nat))) (g1 : bits .andNot .u16 z4 z2 = (y0 : Int)) (g2 : bits .or .u16 z1 y0 = (y1 : Int)) (g3 : bits .or .u16 z2 z5 = (y2 : Int)) (g4 : bits .or .u16 z3 z6 = (y3 : Int)) :
  Calls Tryz.prog 129 #[.agg (nA 4 0 0 0 0 p q 0 0 0), .slice (some ⟨b, 0, none⟩) n cap] w fun e w' => e = .returned (.agg #[.int .u16 y1, .int .u16 y2, .int .u16 y3]) ∧ Below w.heap.size w w' := by
 have hblt : b < w.heap.size := cell_lt a0
 have a0_1 := cell_alloc1 (.cells (nA 4 0 0 0 0 p q 0 0 0) 60) a0
 have a0_2 := cell_alloc1 (.cells #[.int .u16 0, .int .u16 0, .int .u16 0] 140) a0_1
 have a0_3 := cell_alloc1 (.cells #[.int .u16 0, .int .u16 0, .int .u16 0] 140) a0_2
 have a0_4 := cell_alloc1 (.cells #[.int .u16 0, .int .u16 0, .int .u16 0] 140) a0_3
 have a1_1 := cell_alloc1 (.cells (nA 4 0 0 0 0 p q 0 0 0) 60) a1
 have a1_2 := cell_alloc1 (.cells #[.int .u16 0, .int .u16 0, .int .u16 0] 140) a1_1
 have a1_3 := cell_alloc1 (.cells #[.int .u16 0, .int .u16 0, .int .u16 0] 140) a1_2
 have a1_4 := cell_alloc1 (.cells #[.int .u16 0, .int .u16 0, .int .u16 0] 140) a1_3
 have a2_1 := cell_alloc1 (.cells (nA 4 0 0 0 0 p q 0 0 0) 60) a2
 have a2_2 := cell_alloc1 (.cells #[.int .u16 0, .int .u16 0, .int .u16 0] 140) a2_1
 have a2_3 := cell_alloc1 (.cells #[.int .u16 0, .int .u16 0, .int .u16 0] 140) a2_2
 have a2_4 := cell_alloc1 (.cells #[.int .u16 0, .int .u16 0, .int .u16 0] 140) a2_3
 have b0_1 := cell_alloc1 (.cells (nA 4 0 0 0 0 p q 0 0 0) 60) b0
 have b0_2 := cell_alloc1 (.cells #[.int .u16 0, .int .u16 0, .int .u16 0] 140) b0_1
 have b0_3 := cell_alloc1 (.cells #[.int .u16 0, .int .u16 0, .int .u16 0] 140) b0_2
 have b0_4 := cell_alloc1 (.cells #[.int .u16 0, .int .u16 0, .int .u16 0] 140) b0_3
 have b1_1 := cell_alloc1 (.cells (nA 4 0 0 0 0 p q 0 0 0) 60) b1
 have b1_2 := cell_alloc1 (.cells #[.int .u16 0, .int .u16 0, .int .u16 0] 140) b1_1
 have b1_3 := cell_alloc1 (.cells #[.int .u16 0, .int .u16 0, .int .u16 0] 140) b1_2
 have b1_4 := cell_alloc1 (.cells #[.int .u16 0, .int .u16 0, .int .u16 0] 140) b1_3
 have b2_1 := cell_alloc1 (.cells (nA 4 0 0 0 0 p q 0 0 0) 60) b2
 have b2_2 := cell_alloc1 (.cells #[.int .u16 0, .int .u16 0, .int .u16 0] 140) b2_1
 have b2_3 := cell_alloc1 (.cells #[.int .u16 0, .int .u16 0, .int .u16 0] 140) b2_2
 have b2_4 := cell_alloc1 (.cells #[.int .u16 0, .int .u16 0, .int .u16 0] 140) b2_3
 have b0_s := cell_alloc1 (.cells #[.int .u16 0, .int .u16 0, .int .u16 0] 140) (cell_alloc1 (.cells #[.int .u16 z1, .int .u16 z2, .int .u16 z3] 140) b0_2)
 have b0_t := cell_alloc1 (.cells #[.int .u16 z1, .int .u16 z2, .int .u16 z3] 140) (cell_alloc1 (.cells #[.int .u16 0, .int .u16 0, .int .u16 0] 140) b0_2)
 have b1_s := cell_alloc1 (.cells #[.int .u16 0, .int .u16 0, .int .u16 0] 140) (cell_alloc1 (.cells #[.int .u16 z1, .int .u16 z2, .int .u16 z3] 140) b1_2)
 have b1_t := cell_alloc1 (.cells #[.int .u16 z1, .int .u16 z2, .int .u16 z3] 140) (cell_alloc1 (.cells #[.int .u16 0, .int .u16 0, .int .u16 0] 140) b1_2)
 have b2_s := cell_alloc1 (.cells #[.int .u16 0, .int .u16 0, .int .u16 0] 140) (cell_alloc1 (.cells #[.int .u16 z1, .int .u16 z2, .int .u16 z3] 140) b2_2)
 have b2_t := cell_alloc1 (.cells #[.int .u16 z1, .int .u16 z2, .int .u16 z3] 140) (cell_alloc1 (.cells #[.int .u16 0, .int .u16 0, .int .u16 0] 140) b2_2)
 go_enter Tryz.func129, Tryz.ntmps129
 go_wp2_with fail
 go_region
 all_goals
  clear a0_1 a0_2 a0_3 a0_4 a1_1 a1_2 a1_3 a1_4 a2_1 a2_2 a2_3 a2_4 b0_1 b0_2 b0_3 b0_4 b1_1 b1_2 b1_3 b1_4 b2_1 b2_2 b2_3 b2_4 b0_s b0_t b1_s b1_t b2_s b2_t
  go_wp2
  refine bodyPost_ret (v := .agg #[.int .u16 y1, .int .u16 y2, .int .u16 y3]) (by simp [results, Tryz.results129, go_sem]) rfl ⟨rfl, ?_⟩
  refine Below.drew (Below.alloc (Below.alloc (Below.alloc (Below.alloc (Below.refl _ _) ?_ _) ?_ _) ?_ _) ?_ _) <;> first | exact Nat.le_refl _ | (simp only [World.size_alloc]; omega)
theorem role_alt (b n cap p q z1 z2 z3 z4 z5 z6 y0 y1 y2 y3 : Nat) (hpn : p < n) (hqn : q < n) (hn : n ≤ 120) (w : World) (a0 : w.cell? ⟨b, p * 3, none⟩ = some (.int .u16 (z1 : Nat))) (a1 : w.cell? ⟨b, p * 3 + 1, none⟩ = some (.int .u16 (z2 : Nat))) (a2 : w.cell? ⟨b, p * 3 + 2, none⟩ = some (.int .u16 (z3 : Nat))) (b0 : w.cell? ⟨b, q * 3, none⟩ = some (.int .u16 (z4 : Nat))) (b1 : w.cell? ⟨b, q * 3 + 1, none⟩ = some (.int .u16 (z5 : Nat))) (b2 : w.cell? ⟨b, q * 3 + 2, none⟩ = some (.int .u16 (z6 : Nat))) (g2 : bits .or .u16 z1 z4 = (y1 : Int)) (g3 : bits .and .u16 z2 z5 = (y2 : Int)) (g4 : bits .or .u16 z3 z6 = (y3 : Int)) :
  Calls Tryz.prog 129 #[.agg (nA 5 0 0 0 0 p q 0 0 0), .slice (some ⟨b, 0, none⟩) n cap] w fun e w' => e = .returned (.agg #[.int .u16 y1, .int .u16 y2, .int .u16 y3]) ∧ Below w.heap.size w w' := by
 have hblt : b < w.heap.size := cell_lt a0
 have a0_1 := cell_alloc1 (.cells (nA 5 0 0 0 0 p q 0 0 0) 60) a0
 have a0_2 := cell_alloc1 (.cells #[.int .u16 0, .int .u16 0, .int .u16 0] 140) a0_1
 have a0_3 := cell_alloc1 (.cells #[.int .u16 0, .int .u16 0, .int .u16 0] 140) a0_2
 have a0_4 := cell_alloc1 (.cells #[.int .u16 0, .int .u16 0, .int .u16 0] 140) a0_3
 have a1_1 := cell_alloc1 (.cells (nA 5 0 0 0 0 p q 0 0 0) 60) a1
 have a1_2 := cell_alloc1 (.cells #[.int .u16 0, .int .u16 0, .int .u16 0] 140) a1_1
 have a1_3 := cell_alloc1 (.cells #[.int .u16 0, .int .u16 0, .int .u16 0] 140) a1_2
 have a1_4 := cell_alloc1 (.cells #[.int .u16 0, .int .u16 0, .int .u16 0] 140) a1_3
 have a2_1 := cell_alloc1 (.cells (nA 5 0 0 0 0 p q 0 0 0) 60) a2
 have a2_2 := cell_alloc1 (.cells #[.int .u16 0, .int .u16 0, .int .u16 0] 140) a2_1
 have a2_3 := cell_alloc1 (.cells #[.int .u16 0, .int .u16 0, .int .u16 0] 140) a2_2
 have a2_4 := cell_alloc1 (.cells #[.int .u16 0, .int .u16 0, .int .u16 0] 140) a2_3
 have b0_1 := cell_alloc1 (.cells (nA 5 0 0 0 0 p q 0 0 0) 60) b0
 have b0_2 := cell_alloc1 (.cells #[.int .u16 0, .int .u16 0, .int .u16 0] 140) b0_1
 have b0_3 := cell_alloc1 (.cells #[.int .u16 0, .int .u16 0, .int .u16 0] 140) b0_2
 have b0_4 := cell_alloc1 (.cells #[.int .u16 0, .int .u16 0, .int .u16 0] 140) b0_3
 have b1_1 := cell_alloc1 (.cells (nA 5 0 0 0 0 p q 0 0 0) 60) b1
 have b1_2 := cell_alloc1 (.cells #[.int .u16 0, .int .u16 0, .int .u16 0] 140) b1_1
 have b1_3 := cell_alloc1 (.cells #[.int .u16 0, .int .u16 0, .int .u16 0] 140) b1_2
 have b1_4 := cell_alloc1 (.cells #[.int .u16 0, .int .u16 0, .int .u16 0] 140) b1_3
 have b2_1 := cell_alloc1 (.cells (nA 5 0 0 0 0 p q 0 0 0) 60) b2
 have b2_2 := cell_alloc1 (.cells #[.int .u16 0, .int .u16 0, .int .u16 0] 140) b2_1
 have b2_3 := cell_alloc1 (.cells #[.int .u16 0, .int .u16 0, .int .u16 0] 140) b2_2
 have b2_4 := cell_alloc1 (.cells #[.int .u16 0, .int .u16 0, .int .u16 0] 140) b2_3
 have b0_s := cell_alloc1 (.cells #[.int .u16 0, .int .u16 0, .int .u16 0] 140) (cell_alloc1 (.cells #[.int .u16 z1, .int .u16 z2, .int .u16 z3] 140) b0_2)
 have b0_t := cell_alloc1 (.cells #[.int .u16 z1, .int .u16 z2, .int .u16 z3] 140) (cell_alloc1 (.cells #[.int .u16 0, .int .u16 0, .int .u16 0] 140) b0_2)
 have b1_s := cell_alloc1 (.cells #[.int .u16 0, .int .u16 0, .int .u16 0] 140) (cell_alloc1 (.cells #[.int .u16 z1, .int .u16 z2, .int .u16 z3] 140) b1_2)
 have b1_t := cell_alloc1 (.cells #[.int .u16 z1, .int .u16 z2, .int .u16 z3] 140) (cell_alloc1 (.cells #[.int .u16 0, .int .u16 0, .int .u16 0] 140) b1_2)
 have b2_s := cell_alloc1 (.cells #[.int .u16 0, .int .u16 0, .int .u16 0] 140) (cell_alloc1 (.cells #[.int .u16 z1, .int .u16 z2, .int .u16 z3] 140) b2_2)
 have b2_t := cell_alloc1 (.cells #[.int .u16 z1, .int .u16 z2, .int .u16 z3] 140) (cell_alloc1 (.cells #[.int .u16 0, .int .u16 0, .int .u16 0] 140) b2_2)
 go_enter Tryz.func129, Tryz.ntmps129
 go_wp2_with fail
 go_region
 all_goals
  clear a0_1 a0_2 a0_3 a0_4 a1_1 a1_2 a1_3 a1_4 a2_1 a2_2 a2_3 a2_4 b0_1 b0_2 b0_3 b0_4 b1_1 b1_2 b1_3 b1_4 b2_1 b2_2 b2_3 b2_4 b0_s b0_t b1_s b1_t b2_s b2_t
  go_wp2
  refine bodyPost_ret (v := .agg #[.int .u16 y1, .int .u16 y2, .int .u16 y3]) (by simp [results, Tryz.results129, go_sem]) rfl ⟨rfl, ?_⟩
  refine Below.drew (Below.alloc (Below.alloc (Below.alloc (Below.alloc (Below.refl _ _) ?_ _) ?_ _) ?_ _) ?_ _) <;> first | exact Nat.le_refl _ | (simp only [World.size_alloc]; omega)
end Go.Proofs.YtgllmhheahlpjaaGreatDoor
namespace Go.Proofs.YtgllmhheahlpjaaGreatDoor
open Go.RowKit
theorem role_times0 (b n cap p z1 z2 z3 : Nat) (M : Int) (hpn : p < n) (hn : n ≤ 120) (w : World) (a0 : w.cell? ⟨b, p * 3, none⟩ = some (.int .u16 (z1 : Nat))) (a1 : w.cell? ⟨b, p * 3 + 1, none⟩ = some (.int .u16 (z2 : Nat))) (a2 : w.cell? ⟨b, p * 3 + 2, none⟩ = some (.int .u16 (z3 : Nat))) :
  Calls Tryz.prog 129 #[.agg (nA 6 0 0 0 0 p 0 0 M 0), .slice (some ⟨b, 0, none⟩) n cap] w fun e w' => e = .returned (.agg #[.int .u16 z1, .int .u16 0, .int .u16 z3]) ∧ Below w.heap.size w w' := by
 have hblt : b < w.heap.size := cell_lt a0
 go_enter Tryz.func129, Tryz.ntmps129
 go_wp2
 refine bodyPost_ret (v := .agg #[.int .u16 z1, .int .u16 0, .int .u16 z3]) (by simp [results, Tryz.results129, go_sem]) rfl ⟨rfl, ?_⟩
 refine Below.alloc (Below.alloc (Below.alloc (Below.refl _ _) ?_ _) ?_ _) ?_ _ <;> first | exact Nat.le_refl _ | (simp only [World.size_alloc]; omega)
theorem role_times (b n cap p z1 z2 z3 : Nat) (m M : Int) (hm : m ≠ 0) (hpn : p < n) (hn : n ≤ 120) (w : World) (a0 : w.cell? ⟨b, p * 3, none⟩ = some (.int .u16 (z1 : Nat))) (a1 : w.cell? ⟨b, p * 3 + 1, none⟩ = some (.int .u16 (z2 : Nat))) (a2 : w.cell? ⟨b, p * 3 + 2, none⟩ = some (.int .u16 (z3 : Nat))) :
  Calls Tryz.prog 129 #[.agg (nA 6 0 0 0 0 p 0 m M 0), .slice (some ⟨b, 0, none⟩) n cap] w fun e w' => e = .returned (.agg #[.int .u16 z1, .int .u16 z2, .int .u16 z3]) ∧ Below w.heap.size w w' := by
 have hblt : b < w.heap.size := cell_lt a0
 go_enter Tryz.func129, Tryz.ntmps129
 go_wp2
 refine bodyPost_ret (v := .agg #[.int .u16 z1, .int .u16 z2, .int .u16 z3]) (by simp [results, Tryz.results129, go_sem]) rfl ⟨rfl, ?_⟩
 refine Below.alloc (Below.alloc (Below.alloc (Below.refl _ _) ?_ _) ?_ _) ?_ _ <;> first | exact Nat.le_refl _ | (simp only [World.size_alloc]; omega)
theorem role_group (b n cap p z1 z2 z3 y2 y3 N o : Nat) (hN : N < 10) (g1 : IntKind.u16.wrap (2 ^ N) = (o : Int)) (g2 : bits .or .u16 z2 o = (y2 : Int)) (g3 : bits .or .u16 z3 o = (y3 : Int)) (hpn : p < n) (hn : n ≤ 120) (w : World) (a0 : w.cell? ⟨b, p * 3, none⟩ = some (.int .u16 (z1 : Nat))) (a1 : w.cell? ⟨b, p * 3 + 1, none⟩ = some (.int .u16 (z2 : Nat))) (a2 : w.cell? ⟨b, p * 3 + 2, none⟩ = some (.int .u16 (z3 : Nat))) :
  Calls Tryz.prog 129 #[.agg (nA 7 0 0 0 0 p 0 0 0 N), .slice (some ⟨b, 0, none⟩) n cap] w fun e w' => e = .returned (.agg #[.int .u16 z1, .int .u16 y2, .int .u16 y3]) ∧ Below w.heap.size w w' := by
 have hblt : b < w.heap.size := cell_lt a0
 go_enter Tryz.func129, Tryz.ntmps129
 go_wp2
 go_region
 all_goals
  go_wp2
  refine bodyPost_ret (v := .agg #[.int .u16 z1, .int .u16 y2, .int .u16 y3]) (by simp [results, Tryz.results129, go_sem]) rfl ⟨rfl, ?_⟩
  refine Below.drew (Below.alloc (Below.alloc (Below.alloc (Below.refl _ _) ?_ _) ?_ _) ?_ _) <;> first | exact Nat.le_refl _ | (simp only [World.size_alloc]; omega)
end Go.Proofs.YtgllmhheahlpjaaGreatDoor
namespace Go.Proofs.YtgllmhheahlpjaaGreatDoor
open Go.RowKit
theorem roleof_c (s : List UInt8) (l : Nat → Option Nd) (t : T) (i : Nat) (x : Nd) (ht : Sub l t i) (hx : l i = some x) (b n cap : Nat) (hi : i < n) (hn : n ≤ 120) (w : World) (hR : ∀ (j : Nat) (u : T), j < i → Sub l u j → RoleAt w b j (semT s u)) :
  Calls Tryz.prog 129 #[ndV x, .slice (some ⟨b, 0, none⟩) n cap] w fun e w' => e = .returned (roleV (semT s t)) ∧ Below w.heap.size w w' := by
 cases t with
 | leaf y =>
  have hy := ht.leaf
  rw [hx] at hy
  cases hy
  exact role_leaf s x ht.1 b n cap w
 | two k ta tb =>
  obtain ⟨p, q, hl, sa, sb, hp, hq, hk⟩ := ht.two
  rw [hx] at hl
  cases hl
  obtain ⟨a0, a1, a2⟩ := hR p ta hp sa
  obtain ⟨b0, b1, b2⟩ := hR q tb hq sb
  rcases hk with rfl | rfl
  ·rw [show semT s (.two 4 ta tb) = catS s (semT s ta) (semT s tb) by rw [semT, if_pos rfl]]
   exact role_cat b n cap p q _ _ _ _ _ _ _ _ _ _ (by omega) (by omega) hn w a0 a1 a2 b0 b1 b2 (gw_not (semT s tb).asked (semT s ta).always) (gw_or (semT s ta).asked (fun g => (semT s tb).asked g && !(semT s ta).always g)) (gw_or _ _) (gw_or _ _)
  ·rw [show semT s (.two 5 ta tb) = altS (semT s ta) (semT s tb) by rw [semT, if_neg (by decide)]]
   exact role_alt b n cap p q _ _ _ _ _ _ 0 _ _ _ (by omega) (by omega) hn w a0 a1 a2 b0 b1 b2 (gw_or _ _) (gw_and _ _) (gw_or _ _)
 | times m M ta =>
  obtain ⟨p, hl, sa, hp, hc⟩ := ht.times
  rw [hx] at hl
  cases hl
  obtain ⟨a0, a1, a2⟩ := hR p ta hp sa
  by_cases hm : m = 0
  ·subst hm
   have h := role_times0 b n cap p _ _ _ M (by omega) hn w a0 a1 a2
   have e : (gw (semT s (.times 0 M ta)).always : Int) = 0 := by
    have : gw (semT s (.times 0 M ta)).always = 0 := gw_zero.2 (noG_iff.2 fun g _ => rfl)
    rw [this]; rfl
   unfold roleV
   rw [e]
   exact h
  ·have h := role_times b n cap p _ _ _ m M hm (by omega) hn w a0 a1 a2
   have e : gw (semT s (.times m M ta)).always = gw (semT s ta).always := gw_congr fun g _ => if_neg hm
   unfold roleV
   rw [e]
   exact h
 | group N ta =>
  obtain ⟨p, hl, sa, hp, h1, h2⟩ := ht.group
  rw [hx] at hl
  cases hl
  obtain ⟨a0, a1, a2⟩ := hR p ta hp sa
  obtain ⟨K, rfl⟩ := Int.eq_ofNat_of_zero_le (show 0 ≤ N by omega)
  have e : semT s (.group (K : Int) ta) = groupS K (semT s ta) := by rw [semT, Int.toNat_natCast]
  rw [e]
  have e1 : gw (groupS K (semT s ta)).always = gw (fun g => (semT s ta).always g || decide (K = g)) := gw_congr fun g _ => by simp [groupS, eq_comm]
  have e2 : gw (groupS K (semT s ta)).ever = gw (fun g => (semT s ta).ever g || decide (K = g)) := gw_congr fun g _ => by simp [groupS, eq_comm]
  unfold roleV
  rw [e1, e2]
  exact role_group b n cap p _ _ _ _ _ K _ (by omega) (gw_one (by omega)) (gw_or _ (fun g => decide (K = g))) (gw_or _ (fun g => decide (K = g))) (by omega) hn w a0 a1 a2
end Go.Proofs.YtgllmhheahlpjaaGreatDoor
namespace Go.Proofs.YtgllmhheahlpjaaGreatDoor
open Go.RowKit
theorem sub_uniq {l : Nat → Option Nd} : ∀ (t u : T) (i : Nat), Sub l t i → Sub l u i → t = u
 | .leaf x, .leaf y, i, h, k => by
  have := h.leaf
  rw [k.leaf] at this
  cases this; rfl
 | .leaf x, .two _ _ _, i, h, k => by
  have h1 := h.1
  obtain ⟨p, q, e, _, _, _, _, hk⟩ := k.two
  rw [h.leaf] at e
  cases e
  simp only [T.Lok] at h1
  omega
 | .leaf x, .times _ _ _, i, h, k => by
  have h1 := h.1
  obtain ⟨p, e, _⟩ := k.times
  rw [h.leaf] at e
  cases e
  simp only [T.Lok] at h1
  omega
 | .leaf x, .group _ _, i, h, k => by
  have h1 := h.1
  obtain ⟨p, e, _⟩ := k.group
  rw [h.leaf] at e
  cases e
  simp only [T.Lok] at h1
  omega
 | .two _ _ _, .leaf x, i, h, k => by
  have h1 := k.1
  obtain ⟨p, q, e, _, _, _, _, hk⟩ := h.two
  rw [k.leaf] at e
  cases e
  simp only [T.Lok] at h1
  omega
 | .two k1 a b, .two k2 c d, i, h, k => by
  obtain ⟨p, q, e, sa, sb, _, _, _⟩ := h.two
  obtain ⟨p', q', e', sc, sd, _, _, _⟩ := k.two
  rw [e] at e'
  simp only [Option.some.injEq, Nd.mk.injEq] at e'
  obtain ⟨rfl, _, _, _, _, ep, eq, _⟩ := e'
  obtain rfl : p = p' := by omega
  obtain rfl : q = q' := by omega
  rw [sub_uniq a c p sa sc, sub_uniq b d q sb sd]
 | .two _ _ _, .times _ _ _, i, h, k => by
  obtain ⟨p, q, e, _, _, _, _, hk⟩ := h.two
  obtain ⟨p', e', _⟩ := k.times
  rw [e] at e'
  simp only [Option.some.injEq, Nd.mk.injEq] at e'
  omega
 | .two _ _ _, .group _ _, i, h, k => by
  obtain ⟨p, q, e, _, _, _, _, hk⟩ := h.two
  obtain ⟨p', e', _⟩ := k.group
  rw [e] at e'
  simp only [Option.some.injEq, Nd.mk.injEq] at e'
  omega
 | .times _ _ _, .leaf x, i, h, k => by
  have h1 := k.1
  obtain ⟨p, e, _⟩ := h.times
  rw [k.leaf] at e
  cases e
  simp only [T.Lok] at h1
  omega
 | .times _ _ _, .two _ _ _, i, h, k => by
  obtain ⟨p, e, _⟩ := h.times
  obtain ⟨p', q', e', _, _, _, _, hk⟩ := k.two
  rw [e] at e'
  simp only [Option.some.injEq, Nd.mk.injEq] at e'
  omega
 | .times _ _ a, .times _ _ c, i, h, k => by
  obtain ⟨p, e, sa, _⟩ := h.times
  obtain ⟨p', e', sc, _⟩ := k.times
  rw [e] at e'
  simp only [Option.some.injEq, Nd.mk.injEq] at e'
  obtain ⟨_, _, _, _, _, ep, _, rfl, rfl, _⟩ := e'
  obtain rfl : p = p' := by omega
  rw [sub_uniq a c p sa sc]
 | .times _ _ _, .group _ _, i, h, k => by
  obtain ⟨p, e, _⟩ := h.times
  obtain ⟨p', e', _⟩ := k.group
  rw [e] at e'
  simp only [Option.some.injEq, Nd.mk.injEq] at e'
  omega
 | .group _ _, .leaf x, i, h, k => by
  have h1 := k.1
  obtain ⟨p, e, _⟩ := h.group
  rw [k.leaf] at e
  cases e
  simp only [T.Lok] at h1
  omega
 | .group _ _, .two _ _ _, i, h, k => by
  obtain ⟨p, e, _⟩ := h.group
  obtain ⟨p', q', e', _, _, _, _, hk⟩ := k.two
  rw [e] at e'
  simp only [Option.some.injEq, Nd.mk.injEq] at e'
  omega
 | .group _ _, .times _ _ _, i, h, k => by
  obtain ⟨p, e, _⟩ := h.group
  obtain ⟨p', e', _⟩ := k.times
  rw [e] at e'
  simp only [Option.some.injEq, Nd.mk.injEq] at e'
  omega
 | .group _ a, .group _ c, i, h, k => by
  obtain ⟨p, e, sa, _⟩ := h.group
  obtain ⟨p', e', sc, _⟩ := k.group
  rw [e] at e'
  simp only [Option.some.injEq, Nd.mk.injEq] at e'
  obtain ⟨_, _, _, _, _, ep, _, _, _, rfl⟩ := e'
  obtain rfl : p = p' := by omega
  rw [sub_uniq a c p sa sc]
theorem sub_all {l : Nat → Option Nd} : ∀ (t : T) (o : Nat), t.Lok → T.At l t o → ∀ i, o ≤ i → i < o + t.size → ∃ u, Sub l u i
 | .leaf x, o, h, ha, i, h1, h2 => ⟨.leaf x, h, o, ha, by simp only [T.size] at h2 ⊢; omega⟩
 | .two k a b, o, h, ha, i, h1, h2 => by
  simp only [T.size] at h2
  rcases Nat.lt_or_ge i (o + a.size) with c | c
  ·exact sub_all a o h.2.1 ha.1 i h1 c
  ·rcases Nat.lt_or_ge i (o + a.size + b.size) with d | d
   ·exact sub_all b _ h.2.2 ha.2.1 i c d
   ·exact ⟨.two k a b, h, o, ha, by simp only [T.size]; omega⟩
 | .times m M t, o, h, ha, i, h1, h2 => by
  simp only [T.size] at h2
  rcases Nat.lt_or_ge i (o + t.size) with c | c
  ·exact sub_all t o h.2 ha.1 i h1 c
  ·exact ⟨.times m M t, h, o, ha, by simp only [T.size]; omega⟩
 | .group n t, o, h, ha, i, h1, h2 => by
  simp only [T.size] at h2
  rcases Nat.lt_or_ge i (o + t.size) with c | c
  ·exact sub_all t o h.2 ha.1 i h1 c
  ·exact ⟨.group n t, h, o, ha, by simp only [T.size]; omega⟩
def u16s (F : Nat → Nat) (n : Nat) : Array Value := ((List.range n).map fun i => Value.int .u16 (F i)).toArray
structure URow (w : World) (b n : Nat) (F : Nat → Nat) : Prop where
 heap : w.heap[b]? = some (.cells (u16s F n) 140 (0, 0))
theorem u16s_size (F : Nat → Nat) (n : Nat) : (u16s F n).size = n := by simp [u16s]
theorem u16s_at (F : Nat → Nat) (n j : Nat) (h : j < n) : (u16s F n)[j]? = some (.int .u16 (F j)) := by simp [u16s, h]
theorem u16s_set (F : Nat → Nat) (n j v : Nat) : (u16s F n).setIfInBounds j (.int .u16 v) = u16s (fun i => if i = j then v else F i) n := by
 apply Array.ext_getElem?
 intro i
 rw [Array.getElem?_setIfInBounds]
 by_cases hi : i < n
 ·rw [u16s_at _ n i hi, u16s_at _ n i hi, u16s_size]
  by_cases e : j = i
  ·subst e; simp [hi]
  ·have e' : ¬ i = j := fun h => e h.symm
   simp [e, e']
 ·have h1 : (u16s F n)[i]? = none := Array.getElem?_eq_none (by rw [u16s_size]; omega)
  have h2 : (u16s (fun k => if k = j then v else F k) n)[i]? = none := Array.getElem?_eq_none (by rw [u16s_size]; omega)
  rw [h1, h2, u16s_size]
  split <;> first | rfl | (split <;> first | rfl | omega)
section
variable {w : World} {b n : Nat} {F : Nat → Nat}
theorem URow.lt (h : URow w b n F) : b < w.heap.size := (Array.getElem?_eq_some_iff.1 h.heap).1
theorem URow.cell (h : URow w b n F) (j : Nat) (hj : j < n) : w.cell? ⟨b, j, none⟩ = some (.int .u16 (F j)) := by simp [World.cell?, h.heap, u16s_at F n j hj]
theorem URow.fz (h : URow w b n F) (j : Nat) : w.frozen? ⟨b, j, none⟩ = false := by simp [World.frozen?, h.heap]
theorem URow.below {B : Nat} {w' : World} (h : URow w b n F) (hB : Below B w w') (hb : b < B) : URow w' b n F := ⟨(hB.block b hb).trans h.heap⟩
theorem URow.drew (h : URow w b n F) : URow w.drew b n F := ⟨h.heap⟩
theorem URow.set (h : URow w b n F) (j v : Nat) : URow (w.setCell ⟨b, j, none⟩ (.int .u16 v)) b n (fun i => if i = j then v else F i) := ⟨by rw [heap_setCell_same _ b j _ _ _ h.heap, u16s_set]⟩
theorem URow.role (h : URow w b n F) {j : Nat} {S : Sem} (hj : j * 3 + 2 < n) (h0 : F (j * 3) = gw S.asked) (h1 : F (j * 3 + 1) = gw S.always) (h2 : F (j * 3 + 2) = gw S.ever) : RoleAt w b j S :=
 ⟨by rw [h.cell _ (by omega), h0], by rw [h.cell _ (by omega), h1], by rw [h.cell _ (by omega), h2]⟩
end
theorem URow.new (w : World) (n : Nat) (F : Nat → Nat) : URow (w.alloc (.cells (u16s F n) 140)) w.heap.size n F := ⟨by show (w.heap.push _)[w.heap.size]? = _; simp⟩
theorem infoRole : (Tryz.prog.info? 140).map (fun i => (i.zero, i.size, i.bytes)) = some (some (.agg #[.int .u16 0, .int .u16 0, .int .u16 0]), 3, 6) := by kernel_rfl
theorem mk_roles (n : Nat) (hn : n ≤ 120) (w : World) : (Instr.makeSlice 97 (.int .i64 n) (.int .i64 n)).run Tryz.prog w = .ok (.slice (some ⟨w.heap.size, 0, none⟩) n n) (w.alloc (.cells (u16s (fun _ => 0) (n * 3)) 140)) := by
 obtain ⟨i, hi, hz0, hz1, hz2⟩ := info_parts infoRole
 have h := run_makeSlice (P := Tryz.prog) w 97 140 i (.agg #[.int .u16 0, .int .u16 0, .int .u16 0]) Tryz.underlying97 hi hz0 .i64 .i64 n n (by omega) (by omega) (by rw [hz1]; omega) (by rw [hz2]; omega) (by omega)
 rw [h]
 have e : madeCells (Value.agg #[.int .u16 0, .int .u16 0, .int .u16 0]).cells ((n : Int).toNat * i.size) = u16s (fun _ => 0) (n * 3) := by
  rw [hz1]
  apply Array.ext
  ·simp [madeCells, u16s, Value.cells]
  ·intro i h1 h2
   have : i % 3 = 0 ∨ i % 3 = 1 ∨ i % 3 = 2 := by omega
   rcases this with q | q | q <;> simp [madeCells, u16s, Value.cells, q]
 rw [e]
 simp
end Go.Proofs.YtgllmhheahlpjaaGreatDoor
