/- Roles: rolesOf. -/
import Derived.Test.YtjgegohidhdbpaaGreatDoorJMbG
import Derived.Laws.Cover2
import Derived.Laws.FloatArith
import Derived.Test.YtjgegohidhdbpaaGreatDoorRows
import Derived.WalkKit
import Derived.WalkLawsBesides
import Derived.Lib.Hide
import Derived.Outline
open Go.Proofs.Tryz
set_option linter.unusedVariables false
set_option linter.unusedSimpArgs false
set_option maxRecDepth 100000
set_option maxHeartbeats 40000000
namespace Go.Proofs.YtjgegohidhdbpaaGreatDoor
open Go.RowKit
theorem va {l : Nat → Option Nd} : ∀ (t u : T) (i : Nat), zT l t i → zT l u i → t = u
 | .leaf x, .leaf y, i, h, k => by
  have := h.leaf
  rw [k.leaf] at this
  cases this; rfl
 | .leaf x, .two _ _ _, i, h, k => by
  have h1 := h.1
  obtain ⟨p, q, e, _, _, _, _, hk⟩ := k.two
  rw [h.leaf] at e
  cases e
  simp only [T.Lok] at h1
  omega
 | .leaf x, .times _ _ _, i, h, k => by
  have h1 := h.1
  obtain ⟨p, e, _⟩ := k.times
  rw [h.leaf] at e
  cases e
  simp only [T.Lok] at h1
  omega
 | .leaf x, .group _ _, i, h, k => by
  have h1 := h.1
  obtain ⟨p, e, _⟩ := k.group
  rw [h.leaf] at e
  cases e
  simp only [T.Lok] at h1
  omega
 | .two _ _ _, .leaf x, i, h, k => by
  have h1 := k.1
  obtain ⟨p, q, e, _, _, _, _, hk⟩ := h.two
  rw [k.leaf] at e
  cases e
  simp only [T.Lok] at h1
  omega
 | .two k1 a b, .two k2 c d, i, h, k => by
  obtain ⟨p, q, e, sa, sb, _, _, _⟩ := h.two
  obtain ⟨p', q', e', sc, sd, _, _, _⟩ := k.two
  rw [e] at e'
  simp only [Option.some.injEq, Nd.mk.injEq] at e'
  obtain ⟨rfl, _, _, _, _, ep, eq, _⟩ := e'
  obtain rfl : p = p' := by omega
  obtain rfl : q = q' := by omega
  rw [va a c p sa sc, va b d q sb sd]
 | .two _ _ _, .times _ _ _, i, h, k => by
  obtain ⟨p, q, e, _, _, _, _, hk⟩ := h.two
  obtain ⟨p', e', _⟩ := k.times
  rw [e] at e'
  simp only [Option.some.injEq, Nd.mk.injEq] at e'
  omega
 | .two _ _ _, .group _ _, i, h, k => by
  obtain ⟨p, q, e, _, _, _, _, hk⟩ := h.two
  obtain ⟨p', e', _⟩ := k.group
  rw [e] at e'
  simp only [Option.some.injEq, Nd.mk.injEq] at e'
  omega
 | .times _ _ _, .leaf x, i, h, k => by
  have h1 := k.1
  obtain ⟨p, e, _⟩ := h.times
  rw [k.leaf] at e
  cases e
  simp only [T.Lok] at h1
  omega
 | .times _ _ _, .two _ _ _, i, h, k => by
  obtain ⟨p, e, _⟩ := h.times
  obtain ⟨p', q', e', _, _, _, _, hk⟩ := k.two
  rw [e] at e'
  simp only [Option.some.injEq, Nd.mk.injEq] at e'
  omega
 | .times _ _ a, .times _ _ c, i, h, k => by
  obtain ⟨p, e, sa, _⟩ := h.times
  obtain ⟨p', e', sc, _⟩ := k.times
  rw [e] at e'
  simp only [Option.some.injEq, Nd.mk.injEq] at e'
  obtain ⟨_, _, _, _, _, ep, _, rfl, rfl, _⟩ := e'
  obtain rfl : p = p' := by omega
  rw [va a c p sa sc]
 | .times _ _ _, .group _ _, i, h, k => by
  obtain ⟨p, e, _⟩ := h.times
  obtain ⟨p', e', _⟩ := k.group
  rw [e] at e'
  simp only [Option.some.injEq, Nd.mk.injEq] at e'
  omega
 | .group _ _, .leaf x, i, h, k => by
  have h1 := k.1
  obtain ⟨p, e, _⟩ := h.group
  rw [k.leaf] at e
  cases e
  simp only [T.Lok] at h1
  omega
 | .group _ _, .two _ _ _, i, h, k => by
  obtain ⟨p, e, _⟩ := h.group
  obtain ⟨p', q', e', _, _, _, _, hk⟩ := k.two
  rw [e] at e'
  simp only [Option.some.injEq, Nd.mk.injEq] at e'
  omega
 | .group _ _, .times _ _ _, i, h, k => by
  obtain ⟨p, e, _⟩ := h.group
  obtain ⟨p', e', _⟩ := k.times
  rw [e] at e'
  simp only [Option.some.injEq, Nd.mk.injEq] at e'
  omega
 | .group _ a, .group _ c, i, h, k => by
  obtain ⟨p, e, sa, _⟩ := h.group
  obtain ⟨p', e', sc, _⟩ := k.group
  rw [e] at e'
  simp only [Option.some.injEq, Nd.mk.injEq] at e'
  obtain ⟨_, _, _, _, _, ep, _, _, _, rfl⟩ := e'
  obtain rfl : p = p' := by omega
  rw [va a c p sa sc]
theorem Qb {l : Nat → Option Nd} : ∀ (t : T) (o : Nat), t.Lok → T.At l t o → ∀ i, o ≤ i → i < o + t.size → ∃ u, zT l u i
 | .leaf x, o, h, ha, i, h1, h2 => ⟨.leaf x, h, o, ha, by simp only [T.size] at h2 ⊢; omega⟩
 | .two k a b, o, h, ha, i, h1, h2 => by
  simp only [T.size] at h2
  rcases Nat.lt_or_ge i (o + a.size) with c | c
  ·exact Qb a o h.2.1 ha.1 i h1 c
  ·rcases Nat.lt_or_ge i (o + a.size + b.size) with d | d
   ·exact Qb b _ h.2.2 ha.2.1 i c d
   ·exact ⟨.two k a b, h, o, ha, by simp only [T.size]; omega⟩
 | .times m M t, o, h, ha, i, h1, h2 => by
  simp only [T.size] at h2
  rcases Nat.lt_or_ge i (o + t.size) with c | c
  ·exact Qb t o h.2 ha.1 i h1 c
  ·exact ⟨.times m M t, h, o, ha, by simp only [T.size]; omega⟩
 | .group n t, o, h, ha, i, h1, h2 => by
  simp only [T.size] at h2
  rcases Nat.lt_or_ge i (o + t.size) with c | c
  ·exact Qb t o h.2 ha.1 i h1 c
  ·exact ⟨.group n t, h, o, ha, by simp only [T.size]; omega⟩
def Ka (F : Nat → Nat) (n : Nat) : Array Value := ((List.range n).map fun i => Value.int .u16 (F i)).toArray
structure vg (w : World) (b n : Nat) (F : Nat → Nat) : Prop where
 heap : w.heap[b]? = some (.cells (Ka F n) 135 (0, 0))
theorem Zf (F : Nat → Nat) (n : Nat) : (Ka F n).size = n := by simp [Ka]
theorem Xq (F : Nat → Nat) (n j : Nat) (h : j < n) : (Ka F n)[j]? = some (.int .u16 (F j)) := by simp [Ka, h]
theorem qd3 (F : Nat → Nat) (n j v : Nat) : (Ka F n).setIfInBounds j (.int .u16 v) = Ka (fun i => if i = j then v else F i) n := by
 apply Array.ext_getElem?
 intro i
 rw [Array.getElem?_setIfInBounds]
 by_cases hi : i < n
 ·rw [Xq _ n i hi, Xq _ n i hi, Zf]
  by_cases e : j = i
  ·subst e; simp [hi]
  ·have e' : ¬ i = j := fun h => e h.symm
   simp [e, e']
 ·have h1 : (Ka F n)[i]? = none := Array.getElem?_eq_none (by rw [Zf]; omega)
  have h2 : (Ka (fun k => if k = j then v else F k) n)[i]? = none := Array.getElem?_eq_none (by rw [Zf]; omega)
  rw [h1, h2, Zf]
  split <;> first | rfl | (split <;> first | rfl | omega)
section
variable {w : World} {b n : Nat} {F : Nat → Nat}
theorem vg.lt (h : vg w b n F) : b < w.heap.size := (Array.getElem?_eq_some_iff.1 h.heap).1
theorem vg.cell (h : vg w b n F) (j : Nat) (hj : j < n) : w.cell? ⟨b, j, none⟩ = some (.int .u16 (F j)) := by simp [World.cell?, h.heap, Xq F n j hj]
theorem vg.fz (h : vg w b n F) (j : Nat) : w.frozen? ⟨b, j, none⟩ = false := by simp [World.frozen?, h.heap]
theorem vg.below {B : Nat} {w' : World} (h : vg w b n F) (hB : Below B w w') (hb : b < B) : vg w' b n F := ⟨(hB.block b hb).trans h.heap⟩
theorem vg.drew (h : vg w b n F) : vg w.drew b n F := ⟨h.heap⟩
theorem vg.set (h : vg w b n F) (j v : Nat) : vg (w.setCell ⟨b, j, none⟩ (.int .u16 v)) b n (fun i => if i = j then v else F i) := ⟨by rw [heap_setCell_same _ b j _ _ _ h.heap, qd3]⟩
theorem vg.role (h : vg w b n F) {j : Nat} {S : Sem} (hj : j * 3 + 2 < n) (h0 : F (j * 3) = gw S.asked) (h1 : F (j * 3 + 1) = gw S.always) (h2 : F (j * 3 + 2) = gw S.ever) : Xm w b j S :=
 ⟨by rw [h.cell _ (by omega), h0], by rw [h.cell _ (by omega), h1], by rw [h.cell _ (by omega), h2]⟩
end
theorem vg.new (w : World) (n : Nat) (F : Nat → Nat) : vg (w.alloc (.cells (Ka F n) 135)) w.heap.size n F := ⟨by show (w.heap.push _)[w.heap.size]? = _; simp⟩
theorem qd4 : (Tryz.prog.info? 135).map (fun i => (i.zero, i.size, i.bytes)) = some (some (.agg #[.int .u16 0, .int .u16 0, .int .u16 0]), 3, 6) := by kernel_rfl
theorem qd5 (n : Nat) (hn : n ≤ 120) (w : World) : (Instr.makeSlice 90 (.int .i64 n) (.int .i64 n)).run prog w = .ok (.slice (some ⟨w.heap.size, 0, none⟩) n n) (w.alloc (.cells (Ka (fun _ => 0) (n * 3)) 135)) := by
 obtain ⟨i, hi, QX, kF, vv⟩ := info_parts qd4
 have h := run_makeSlice (P := prog) w 90 135 i (.agg #[.int .u16 0, .int .u16 0, .int .u16 0]) underlying90 hi QX .i64 .i64 n n (by omega) (by omega) (by rw [kF]; omega) (by rw [vv]; omega) (by omega)
 rw [h]
 have e : madeCells (Value.agg #[.int .u16 0, .int .u16 0, .int .u16 0]).cells ((n : Int).toNat * i.size) = Ka (fun _ => 0) (n * 3) := by
  rw [kF]
  apply Array.ext
  ·simp [madeCells, Ka, Value.cells]
  ·intro i h1 h2
   have : i % 3 = 0 ∨ i % 3 = 1 ∨ i % 3 = 2 := by omega
   rcases this with q | q | q <;> simp [madeCells, Ka, Value.cells, q]
 rw [e]
 simp
theorem qbt (s : List UInt8) (b o n cap : Nat) (xs : List Nd) (hn : xs.length = n) (h1 : 1 ≤ n) (h2 : n ≤ 120) (J9 : ∀ i, i < n → ∃ t, zT (fun i => xs[i]?) t i) (w : World) (hx : qn w b o xs) :
  Calls prog 96 #[.slice (some ⟨b, o, none⟩) n cap] w fun e w' => e = .returned (.slice (some ⟨w.heap.size, 0, none⟩) n n) ∧ (∃ F, vg w' w.heap.size (n * 3) F ∧ ∀ (j : Nat) (t : T), j < n → zT (fun i => xs[i]?) t j → F (j * 3) = gw (qd s t).asked ∧ F (j * 3 + 1) = gw (qd s t).always ∧ F (j * 3 + 2) = gw (qd s t).ever) ∧ Below w.heap.size w w' := by
 have HS := ξ J9
 clear J9
 have hm := qd5 n h2 w
 go_enter func96, ntmps96
 go_wp2
 clear hm
 have lb := hx.lt
 go_loopw [11] (fun i wr => ∃ k : Nat, k ≤ n ∧ i = .int .i64 k ∧ (∃ F, vg wr w.heap.size (n * 3) F ∧ ∀ (j : Nat) (t : T), j < k → zT (fun i => xs[i]?) t j → F (j * 3) = gw (qd s t).asked ∧ F (j * 3 + 1) = gw (qd s t).always ∧ F (j * 3 + 2) = gw (qd s t).ever) ∧ Below w.heap.size w wr) (fun i _ => n - (RowKit.intOf i).toNat)
 case atStart =>
  exact ⟨0, by omega, rfl, ⟨fun _ => 0, vg.new w _ _, fun j t hj => by omega⟩, (Below.refl _ w).alloc (Nat.le_refl _) _⟩
 case round =>
  obtain ⟨k, hk, rfl, ⟨F, hf, hg⟩, hB⟩ := hrel
  have HG := ξ hg
  clear hg
  by_cases zb : k < n
  ·obtain ⟨x, yI⟩ : ∃ x, xs[k]? = some x := ⟨xs[k]'(by omega), List.getElem?_eq_getElem (by omega)⟩
   obtain ⟨t, ht⟩ := HS.out k zb
   have hw := hx.below hB hx.lt
   have d := hw.cell k x yI
   have lB := hB.size
   have lf := hf.lt
   have qh := qd6 s (fun i => xs[i]?) t k x ht yI w.heap.size n n zb h2 (wr.alloc (.cells x.cells 57)) (fun j u hj hu => by
    obtain ⟨f0, f1, f2⟩ := HG.out j u hj hu
    exact (hf.below (B := wr.heap.size) ((Below.refl _ wr).alloc (Nat.le_refl _) _) lf).role (by omega) f0 f1 f2)
   have HT := ξ ht
   have KD : ∀ W, vg W w.heap.size (n * 3) (fun i => if i = k * 3 + 2 then gw (qd s t).ever else (if i = k * 3 + 1 then gw (qd s t).always else (if i = k * 3 then gw (qd s t).asked else F i))) → ∃ F, vg W w.heap.size (n * 3) F ∧ ∀ (j : Nat) (t : T), j < k + 1 → zT (fun i => xs[i]?) t j → F (j * 3) = gw (qd s t).asked ∧ F (j * 3 + 1) = gw (qd s t).always ∧ F (j * 3 + 2) = gw (qd s t).ever := fun W hW => by
    refine ⟨_, hW, fun j u hj hu => ?_⟩
    by_cases e : j = k
    ·subst e
     obtain rfl := va u t j hu HT.out
     refine ⟨?_, ?_, ?_⟩
     ·rw [if_neg (by omega), if_neg (by omega), if_pos rfl]
     ·rw [if_neg (by omega), if_pos rfl]
     ·rw [if_pos rfl]
    ·obtain ⟨f0, f1, f2⟩ := HG.out j u (by omega) hu
     refine ⟨?_, ?_, ?_⟩
     ·rw [if_neg (by omega), if_neg (by omega), if_neg (by omega), f0]
     ·rw [if_neg (by omega), if_neg (by omega), if_neg (by omega), f1]
     ·rw [if_neg (by omega), if_neg (by omega), if_neg (by omega), f2]
   have HFin := ξ KD
   clear KD ht
   obtain ⟨kd, w0, w1, w2, w3, xa, xb, m, M, xn⟩ := x
   have d_ := zB d
   clear d
   unfold K3 at qh
   generalize gw (qd s t).asked = y1 at *
   generalize gw (qd s t).always = y2 at *
   generalize gw (qd s t).ever = y3 at *
   have HC := ξ qh
   clear qh
   go_wp2_with fail
   refine HC.out.mono ?_
   rintro e v2 ⟨rfl, zj⟩
   rw [World.size_alloc] at zj
   have hf2 : vg v2 w.heap.size (n * 3) F := (hf.below (B := wr.heap.size) ((Below.refl _ wr).alloc (Nat.le_refl _) _) lf).below zj (by omega)
   have q0 := hf2.cell (k * 3) (by omega)
   have q1 := hf2.cell (k * 3 + 1) (by omega)
   have q2 := hf2.cell (k * 3 + 2) (by omega)
   have z0 := hf2.fz (k * 3)
   have z1 := hf2.fz (k * 3 + 1)
   have z2 := hf2.fz (k * 3 + 2)
   have qQ : Below w.heap.size w v2 := (hB.alloc lB _).trans ⟨zj.os, zj.tape, zj.output, zj.size, fun i hi => zj.block i (by omega)⟩
   have Zt := ξ qQ
   clear d_ zj qQ HC
   go_wp2
   go_roundw
   case rel =>
    exact ⟨k + 1, by omega, by simp, HFin.out _ (((hf2.set (k * 3) y1).set (k * 3 + 1) y2).set (k * 3 + 2) y3), ((Zt.out.setCell (p := ⟨w.heap.size, k * 3, none⟩) (Nat.le_refl _) _).setCell (p := ⟨w.heap.size, k * 3 + 1, none⟩) (Nat.le_refl _) _).setCell (p := ⟨w.heap.size, k * 3 + 2, none⟩) (Nat.le_refl _) _⟩
   case measure => (simp [RowKit.intOf]) <;> omega
  ·obtain rfl : k = n := by omega
   go_wp2
   go_ret
   exact ⟨rfl, ⟨F, hf, HG.out⟩, hB⟩
end Go.Proofs.YtjgegohidhdbpaaGreatDoor
namespace Go.Proofs.YtjgegohidhdbpaaGreatDoor.Fl
open Ieee
def K : Nat := 1074
theorem qjg : K = 1074 := rfl
def unit : Nat := 2 ^ K
theorem WU : 0 < unit := Nat.pow_pos (by decide)
theorem qZ : (0 : Int) < (unit : Int) := Int.natCast_pos.2 WU
theorem Zg (s : Bool) (m k : Nat) : signed s m k = (if s then -1 else 1) * (m : Int) * 2 ^ k := by
 unfold signed
 cases s <;> simp [Nat.shiftLeft_eq, Int.natCast_mul, Int.natCast_pow, Int.neg_mul]
theorem Va (s : Bool) (m k l : Nat) : signed s m (k + l) = signed s m k * 2 ^ l := by
 rw [Zg, Zg, Int.pow_add]; simp only [Int.mul_assoc]
def dun : Datum → Option Int
 | .number s m p => some (signed s m (p + 1074).toNat)
 | _ => none
def un (x : Nat) : Option Int := dun (double.read x)
theorem Kb : double.leastPlace = -1074 := by decide
theorem Yq : double.binade = 2 ^ 52 := rfl
theorem Vb : double.infRung = 2047 * 2 ^ 52 := by decide
theorem Zv : double.signWeight = 2 ^ 63 := by decide
theorem Gb {x : Nat} {s : Bool} {m : Nat} {p : Int} (h : double.read x = .number s m p) : -1074 ≤ p := by
 unfold Format.read at h
 simp only [Kb] at h
 split at h
 ·injection h with _ _ h; omega
 ·split at h
  ·injection h with _ _ h; omega
  ·split at h <;> cases h
theorem qax (a b c : Int) (hc : 0 < c) : compare (a * c) (b * c) = compare a b := by
 rcases Int.lt_trichotomy a b with h | h | h
 ·rw [Int.compare_eq_lt.2 h, Int.compare_eq_lt.2 (Int.mul_lt_mul_of_pos_right h hc)]
 ·subst h; simp
 ·rw [Int.compare_eq_gt.2 h, Int.compare_eq_gt.2 (Int.mul_lt_mul_of_pos_right h hc)]
theorem VQ (s : Bool) (m : Nat) (i : Int) (t : Bool) (n : Nat) (j : Int) (hi : -1074 ≤ i) (hj : -1074 ≤ j) :
  Datum.order (.number s m i) (.number t n j) = some (compare (signed s m (i + 1074).toNat) (signed t n (j + 1074).toNat)) := by
 have e1 : (i + 1074).toNat = (i - min i j).toNat + (min i j + 1074).toNat := by omega
 have e2 : (j + 1074).toNat = (j - min i j).toNat + (min i j + 1074).toNat := by omega
 rw [e1, e2, Va, Va, qax _ _ _ (Int.pow_pos (by decide))]
 rfl
theorem Kc {x : Nat} {u : Int} (h : un x = some u) : ∃ s m p, double.read x = .number s m p ∧ -1074 ≤ p ∧ signed s m (p + 1074).toNat = u := by
 unfold un at h
 cases hr : double.read x with
 | number s m p => rw [hr] at h; exact ⟨s, m, p, rfl, Gb hr, by simpa [dun] using h⟩
 | infinity s => rw [hr] at h; cases h
 | nan s f => rw [hr] at h; cases h
theorem Kd {x y : Nat} {u v : Int} (hx : un x = some u) (hy : un y = some v) : double.order x y = some (compare u v) := by
 obtain ⟨s, m, p, hr, hp, rfl⟩ := Kc hx
 obtain ⟨t, n, q, hq, hp2, rfl⟩ := Kc hy
 unfold Format.order
 rw [hr, hq, VQ _ _ _ _ _ _ hp hp2]
theorem ZH {n : Nat} (hn : n ≠ 0) (k : Nat) : (n * 2 ^ k).log2 = n.log2 + k := by
 have hp : 0 < 2 ^ k := Nat.pow_pos (by decide)
 have hne : n * 2 ^ k ≠ 0 := Nat.mul_ne_zero hn (Nat.ne_of_gt hp)
 apply (Nat.log2_eq_iff hne).2
 constructor
 ·rw [Nat.pow_add]; exact Nat.mul_le_mul_right _ (Nat.log2_self_le hn)
 ·have : n.log2 + k + 1 = (n.log2 + 1) + k := by omega
  rw [this, Nat.pow_add]; exact Nat.mul_lt_mul_of_pos_right Nat.lt_log2_self hp
theorem qbu (s : Bool) (n drop : Nat) : Toward.even.cut s (n <<< drop) drop = n := by
 unfold Toward.cut
 by_cases hn : n = 0
 ·subst hn
  simp
 ·have hl : (n <<< drop).log2 = n.log2 + drop := by
   rw [Nat.shiftLeft_eq]
   exact ZH hn drop
  have hm : min drop ((n <<< drop).log2 + 2) = drop := by rw [hl]; omega
  have hg : 1 <<< drop = 2 ^ drop := by rw [Nat.shiftLeft_eq, Nat.one_mul]
  have hp : 0 < 2 ^ drop := Nat.pow_pos (by decide)
  simp only [hm, hg]
  rw [Nat.shiftLeft_eq, Nat.mul_div_cancel _ hp, Nat.mul_mod_left]
  have : (2 ^ drop == 0) = false := by simp
  simp [this]
theorem qbv (s : Bool) (r : Nat) (h : r < 2 ^ 63) (h0 : 2 ^ 52 ≤ r) (h1 : r < 2047 * 2 ^ 52) :
  double.read (double.word s r) = .number s (2 ^ 52 + r % 2 ^ 52) (-1074 + (r / 2 ^ 52 - 1 : Nat)) := by
 have hw : double.word s r / 2 ^ 63 % 2 = (if s then 1 else 0) ∧ double.word s r % 2 ^ 63 = r := by
  unfold Format.word
  rw [Zv]
  cases s
  ·simp; omega
  ·simp; omega
 unfold Format.read
 simp only [Zv, hw.1, hw.2, Yq, Vb, Kb]
 rw [if_neg (by omega), if_pos h1]
 cases s <;> rfl
theorem qbw (s : Bool) : double.read (double.word s 0) = .number s 0 (-1074) := by
 cases s <;> decide +kernel
theorem Gc (e : Nat) : (-1074 + (e : Int) + 1074).toNat = e := by omega
theorem Gd (kept e : Nat) (hl : 2 ^ 52 ≤ kept) (hh : kept < 2 ^ 53) (he : e ≤ 52) :
  min ((e + 1022) * 2 ^ 52 + kept) (2047 * 2 ^ 52) = (e + 1022) * 2 ^ 52 + kept ∧ (e + 1022) * 2 ^ 52 + kept < 2 ^ 63
  ∧ 2 ^ 52 ≤ (e + 1022) * 2 ^ 52 + kept ∧ (e + 1022) * 2 ^ 52 + kept < 2047 * 2 ^ 52
  ∧ 2 ^ 52 + ((e + 1022) * 2 ^ 52 + kept) % 2 ^ 52 = kept ∧ ((e + 1022) * 2 ^ 52 + kept) / 2 ^ 52 - 1 = e + 1022 := by
 refine ⟨?_, ?_, ?_, ?_, ?_, ?_⟩ <;> omega
theorem K4 (s : Bool) (m : Nat) (p : Int) (n : Nat) (hn : n < 2 ^ 53) (h : m <<< p.toNat = n <<< (-p).toNat) :
  un (double.write (.number s m p)) = some (signed s n K) := by
 have Wa : ∀ k : Nat, 0 < 2 ^ k := fun k => Nat.pow_pos (by decide)
 unfold un Format.write Format.nearest
 by_cases hm : m = 0
 ·subst hm
  have hn0 : n = 0 := by
   rw [Nat.zero_shiftLeft] at h
   rw [Nat.shiftLeft_eq] at h
   rcases Nat.mul_eq_zero.1 h.symm with h | h
   ·exact h
   ·exact absurd h (Nat.ne_of_gt (Wa _))
  subst hn0
  show dun (double.read (if (0 : Nat) = 0 then double.word s 0 else _)) = _
  rw [if_pos rfl, qbw]
  show some (signed s 0 (-1074 + 1074 : Int).toNat) = some (signed s 0 K)
  cases s <;> simp [signed]
 ·have hn0 : n ≠ 0 := by
   intro h0
   subst h0
   rw [Nat.zero_shiftLeft, Nat.shiftLeft_eq] at h
   rcases Nat.mul_eq_zero.1 h with h | h
   ·exact hm h
   ·exact absurd h (Nat.ne_of_gt (Wa _))
  simp only [if_neg hm]
  have hlog : (m.log2 : Int) + p = n.log2 := by
   have := congrArg Nat.log2 h
   rw [Nat.shiftLeft_eq, Nat.shiftLeft_eq, ZH hm, ZH hn0] at this
   omega
  have he : n.log2 ≤ 52 := by
   have := (Nat.log2_lt hn0).2 hn
   omega
  have hlo : 2 ^ n.log2 ≤ n := Nat.log2_self_le hn0
  have hhi : n < 2 ^ (n.log2 + 1) := Nat.lt_log2_self
  generalize hE : n.log2 = e at *
  have Vc : max (p + m.log2 - double.fractionBits) double.leastPlace = (e : Int) - 52 := by
   rw [Kb, show double.fractionBits = 52 from rfl]; omega
  simp only [Vc]
  have hmag : m <<< (p - ((e : Int) - 52)).toNat = (n <<< (52 - e)) <<< ((e : Int) - 52 - p).toNat := by
   rw [Nat.shiftLeft_eq, Nat.shiftLeft_eq] at h
   simp only [Nat.shiftLeft_eq]
   by_cases h1 : 0 ≤ p
   ·have a1 : (-p).toNat = 0 := by omega
    have a2 : (p - ((e : Int) - 52)).toNat = p.toNat + (52 - e) := by omega
    have a3 : ((e : Int) - 52 - p).toNat = 0 := by omega
    rw [a1, Nat.pow_zero, Nat.mul_one] at h
    rw [a2, a3, Nat.pow_add, Nat.pow_zero, Nat.mul_one, ← Nat.mul_assoc, h]
   ·have a1 : p.toNat = 0 := by omega
    rw [a1, Nat.pow_zero, Nat.mul_one] at h
    subst h
    by_cases h2 : (e : Int) - 52 ≤ p
    ·have a3 : ((e : Int) - 52 - p).toNat = 0 := by omega
     have a4 : 52 - e = (-p).toNat + (p - ((e : Int) - 52)).toNat := by omega
     rw [a3, a4, Nat.pow_zero, Nat.mul_one, Nat.pow_add, Nat.mul_assoc]
    ·have a3 : (p - ((e : Int) - 52)).toNat = 0 := by omega
     have a4 : (-p).toNat = (52 - e) + ((e : Int) - 52 - p).toNat := by omega
     rw [a3, a4, Nat.pow_zero, Nat.mul_one, Nat.pow_add, Nat.mul_assoc]
  rw [hmag, qbu]
  have hk : n <<< (52 - e) = n * 2 ^ (52 - e) := Nat.shiftLeft_eq ..
  rw [hk]
  have jl : 2 ^ 52 ≤ n * 2 ^ (52 - e) := by
   have : 2 ^ 52 = 2 ^ e * 2 ^ (52 - e) := by rw [← Nat.pow_add]; congr 1; omega
   rw [this]
   exact Nat.mul_le_mul_right _ hlo
  have hkh : n * 2 ^ (52 - e) < 2 ^ 53 := by
   have : 2 ^ 53 = 2 ^ (e + 1) * 2 ^ (52 - e) := by rw [← Nat.pow_add]; congr 1; omega
   rw [this]
   exact Nat.mul_lt_mul_of_pos_right hhi (Wa _)
  have Ku : n * 2 ^ (52 - e) * 2 ^ (e + 1022) = n * 2 ^ K := by
   have e3 : 52 - e + (e + 1022) = K := by have := qjg; omega
   rw [Nat.mul_assoc, ← Nat.pow_add, e3]
  generalize n * 2 ^ (52 - e) = kept at *
  have Y9 : ((e : Int) - 52 - double.leastPlace).toNat = e + 1022 := by rw [Kb]; omega
  rw [Y9, Yq, Vb]
  obtain ⟨qgv, c1, c2, c3, b1, b2⟩ := Gd kept e jl hkh he
  rw [qgv, qbv _ _ c1 c2 c3]
  rw [b1, b2]
  have b3 : (-1074 + ((e + 1022 : Nat) : Int) + 1074).toNat = e + 1022 := Gc _
  show some (signed s kept (-1074 + ((e + 1022 : Nat) : Int) + 1074).toNat) = _
  rw [b3]
  unfold signed
  rw [Nat.shiftLeft_eq, Nat.shiftLeft_eq, Ku]
theorem qlz : (unit : Int) = 2 ^ K := by unfold unit; rw [Int.natCast_pow]; rfl
theorem K5 (s : Bool) (n : Nat) : signed s n K = (if s then -(n : Int) else n) * unit := by
 rw [Zg, qlz]
 cases s <;> simp
theorem Zu (n : Int) (h : n.natAbs < 2 ^ 53) : un (floatOfInt .f64 n) = some (n * unit) := by
 have := K4 (n < 0) n.natAbs 0 n.natAbs h (by simp)
 rw [K5] at this
 refine Eq.trans this ?_
 congr 2
 by_cases h0 : n < 0
 ·simp [h0]; omega
 ·simp [h0]; omega
theorem WV {x : Nat} {u : Int} (h : un x = some u) (h0 : 0 ≤ u) (h1 : u < ((2 ^ 53 : Nat) : Int) * unit) :
  un (double.write ((double.read x).integral .zero)) = some (u / unit * unit) ∧ (double.read x).toInt .zero = some (u / unit) := by
 obtain ⟨s, m, p, hr, hp, rfl⟩ := Kc h
 rw [hr]
 -- the whole part, as a natural number
 have Wa : ∀ k : Nat, 0 < 2 ^ k := fun k => Nat.pow_pos (by decide)
 have hcut : Toward.zero.cut s (m <<< p.toNat) (-p).toNat = m <<< p.toNat / 2 ^ (-p).toNat := by
  unfold Toward.cut
  simp only [Bool.toNat_false, Nat.add_zero]
  have hg : ∀ k, 1 <<< k = 2 ^ k := fun k => by rw [Nat.shiftLeft_eq, Nat.one_mul]
  rw [hg]
  by_cases hd : (-p).toNat ≤ (m <<< p.toNat).log2 + 2
  ·rw [Nat.min_eq_left hd]
  ·have hp0 : p.toNat = 0 := by omega
   rw [hp0] at hd ⊢
   have hm0 : m <<< 0 = m := rfl
   rw [hm0] at hd ⊢
   have zb : m < 2 ^ (m.log2 + 1) := Nat.lt_log2_self
   have e1 : m / 2 ^ min (-p).toNat (m.log2 + 2) = 0 := by
    apply Nat.div_eq_of_lt
    rw [Nat.min_eq_right (by omega)]
    exact Nat.lt_of_lt_of_le zb (Nat.pow_le_pow_right (by decide) (by omega))
   have e2 : m / 2 ^ (-p).toNat = 0 := by
    apply Nat.div_eq_of_lt
    exact Nat.lt_of_lt_of_le zb (Nat.pow_le_pow_right (by decide) (by omega))
   rw [e1, e2]
 generalize hq : m <<< p.toNat / 2 ^ (-p).toNat = q at hcut
 -- the units: m shifted
 have hw : m <<< (p + 1074).toNat / unit = q := by
  rw [← hq]
  unfold unit
  simp only [Nat.shiftLeft_eq]
  by_cases h2 : 0 ≤ p
  ·have a1 : (p + 1074).toNat = p.toNat + K := by have := qjg; omega
   have a2 : (-p).toNat = 0 := by omega
   rw [a1, a2, Nat.pow_add, ← Nat.mul_assoc, Nat.mul_div_cancel _ (Wa _), Nat.pow_zero, Nat.div_one]
  ·have a1 : p.toNat = 0 := by omega
   have a2 : K = (-p).toNat + (p + 1074).toNat := by have := qjg; omega
   generalize hk : (p + 1074).toNat = k at *
   rw [a1, Nat.pow_zero, Nat.mul_one]
   conv => lhs; rw [a2, Nat.pow_add, Nat.mul_div_mul_right _ _ (Wa _)]
 have hs : s = true → m = 0 := by
  intro hs
  subst hs
  rw [Zg] at h0
  simp only [if_true] at h0
  have hp2 : (0 : Int) < 2 ^ (p + 1074).toNat := Int.pow_pos (by decide)
  have : ¬ (m : Int) > 0 := by
   intro hm
   have := Int.mul_pos hm hp2
   rw [Int.mul_assoc, Int.neg_mul, Int.one_mul] at h0
   omega
  omega
 have hu : signed s m (p + 1074).toNat = ((m <<< (p + 1074).toNat : Nat) : Int) := by
  cases s
  ·rfl
  ·rw [hs rfl]; simp [signed]
 rw [hu] at h1 ⊢
 have hdiv : ((m <<< (p + 1074).toNat : Nat) : Int) / (unit : Int) = (q : Int) := by
  rw [← Int.natCast_ediv, hw]
 rw [hdiv]
 have hq53 : q < 2 ^ 53 := by
  rw [← hw]
  apply (Nat.div_lt_iff_lt_mul WU).2
  have h2 : ((m <<< (p + 1074).toNat : Nat) : Int) < ((2 ^ 53 * unit : Nat) : Int) := by rw [Int.natCast_mul]; exact h1
  exact Int.ofNat_lt.1 h2
 have hsq : signed s q K = (q : Int) * unit := by
  rw [K5]
  cases s
  ·rfl
  ·have : q = 0 := by rw [← hq, hs rfl]; simp
   subst this; simp
 constructor
 ·show un (double.write (.number s (Toward.zero.cut s (m <<< p.toNat) (-p).toNat) 0)) = _
  rw [hcut, K4 s q 0 q hq53 (by simp), hsq]
 ·show some (signed s (Toward.zero.cut s (m <<< p.toNat) (-p).toNat) 0) = _
  rw [hcut]
  cases s
  ·simp [signed]
  ·have : q = 0 := by rw [← hq, hs rfl]; simp
   subst this; simp [signed]
def val (x : Nat) : Option Int := match un x with
 | some u => if u % unit = 0 then some (u / unit) else none
 | none => none
theorem kK {x : Nat} {n : Int} (h : val x = some n) : un x = some (n * unit) := by
 unfold val at h
 split at h
 ·rename_i u hu
  split at h
  ·rename_i hz
   injection h with h
   rw [hu, ← h]
   congr 1
   have := Int.mul_ediv_add_emod u unit
   rw [hz, Int.add_zero, Int.mul_comm] at this
   exact this.symm
  ·cases h
 ·cases h
theorem qji {x : Nat} {n : Int} (h : un x = some (n * unit)) : val x = some n := by
 have hne : (unit : Int) ≠ 0 := Int.ne_of_gt qZ
 unfold val
 simp only [h]
 rw [Int.mul_emod_left, if_pos rfl, Int.mul_ediv_cancel _ hne]
theorem KE {x y : Nat} {m n : Int} (hx : val x = some m) (hy : val y = some n) : double.order x y = some (compare m n) := by
 rw [Kd (kK hx) (kK hy), qax _ _ _ qZ]
theorem zX {n : Int} (h : n.natAbs < 2 ^ 53) : val (floatOfInt .f64 n) = some n := qji (Zu n h)
end Go.Proofs.YtjgegohidhdbpaaGreatDoor.Fl
namespace Go.Proofs.YtjgegohidhdbpaaGreatDoor
open Go.RowKit Go.Proofs.YtjgegohidhdbpaaGreatDoor.Fl
def KQ : Nat := 4741671816358002688
def qf : Nat := 13830554455654793216
theorem yA : val 0 = some 0 := by decide +kernel
theorem Ze : val KQ = some 999999999 := by decide +kernel
theorem yR : val qf = some (-1) := by decide +kernel
def Ut (x y : Nat) : Bool := FloatKind.f64.format.order x y == some .gt || FloatKind.f64.format.order x y == some .eq
def leB (x y : Nat) : Bool := FloatKind.f64.format.order x y == some .lt || FloatKind.f64.format.order x y == some .eq
def sp (x y : Nat) : Option (Int × Int) := match val x, val y with
 | some m, some n => if 0 ≤ m ∧ m ≤ n ∧ n ≤ 999999999 then some (m, n) else none
 | _, _ => none
theorem yj {x y : Nat} {m n : Int} (h : sp x y = some (m, n)) : val x = some m ∧ val y = some n ∧ 0 ≤ m ∧ m ≤ n ∧ n ≤ 999999999 := by
 unfold sp at h
 split at h
 ·rename_i a b ha hb
  split at h
  ·rename_i hc
   simp only [Option.some.injEq, Prod.mk.injEq] at h
   obtain ⟨rfl, rfl⟩ := h
   exact ⟨ha, hb, hc⟩
  ·cases h
 ·cases h
theorem JM {x y : Nat} {m n : Int} (hx : val x = some m) (hy : val y = some n) (h0 : 0 ≤ m) (h1 : m ≤ n) (h2 : n ≤ 999999999) : sp x y = some (m, n) := by
 unfold sp; rw [hx, hy]; simp [h0, h1, h2]
theorem zo (x y : Nat) : FloatKind.f64.format.order x y = Ieee.double.order x y := rfl
theorem Jr {x y : Nat} {m n : Int} (hx : val x = some m) (hy : val y = some n) : Ut x y = decide (n ≤ m) := by
 unfold Ut
 rw [zo, KE hx hy]
 rcases Int.lt_trichotomy m n with h | h | h
 ·rw [Int.compare_eq_lt.2 h]; have : ¬ n ≤ m := by omega
  simp [this]
 ·subst h; simp
 ·rw [Int.compare_eq_gt.2 h]; have : n ≤ m := by omega
  simp [this]
theorem Xr {x y : Nat} {m n : Int} (hx : un x = some m) (hy : un y = some n) : leB x y = decide (m ≤ n) := by
 unfold leB
 rw [zo, Kd hx hy]
 rcases Int.lt_trichotomy m n with h | h | h
 ·rw [Int.compare_eq_lt.2 h]; have : m ≤ n := by omega
  simp [this]
 ·subst h; simp
 ·rw [Int.compare_eq_gt.2 h]; have : ¬ m ≤ n := by omega
  simp [this]
theorem qd7 {x y : Nat} {m n : Int} (hx : un x = some m) (hy : un y = some n) : Ut x y = decide (n ≤ m) := by
 unfold Ut
 rw [zo, Kd hx hy]
 rcases Int.lt_trichotomy m n with h | h | h
 ·rw [Int.compare_eq_lt.2 h]; have : ¬ n ≤ m := by omega
  simp [this]
 ·subst h; simp
 ·rw [Int.compare_eq_gt.2 h]; have : n ≤ m := by omega
  simp [this]
theorem Qa {x y : Nat} {m n : Int} (hx : val x = some m) (hy : val y = some n) : leB x y = decide (m ≤ n) := by
 rw [Xr (kK hx) (kK hy)]
 have := qZ
 by_cases h : m ≤ n
 ·simp [h, Int.mul_le_mul_of_nonneg_right h (Int.le_of_lt this)]
 ·have h2 : ¬ m * unit ≤ n * unit := by
   have := Int.mul_lt_mul_of_pos_right (Int.not_le.1 h) this
   omega
  simp [h, h2]
theorem qjj {x : Nat} (h0 : Ut x 0 = true) (h1 : leB x KQ = true) : ∃ u : Int, un x = some u := by
 unfold un
 cases hr : Ieee.double.read x with
 | number s m p => exact ⟨_, rfl⟩
 | nan s f =>
  have : Ieee.double.order x 0 = none := by unfold Ieee.Format.order; rw [hr]; rfl
  unfold Ut at h0; rw [zo, this] at h0; cases h0
 | infinity s =>
  cases s
  ·have : Ieee.double.order x KQ = some .gt := by
    unfold Ieee.Format.order; rw [hr]
    have : Ieee.double.read KQ = .number false 8388607991611392 (-23) := by decide +kernel
    rw [this]; rfl
   unfold leB at h1; rw [zo, this] at h1; cases h1
  ·have : Ieee.double.order x 0 = some .lt := by
    unfold Ieee.Format.order; rw [hr]
    have : Ieee.double.read 0 = .number false 0 (-1074) := by decide +kernel
    rw [this]; rfl
   unfold Ut at h0; rw [zo, this] at h0; cases h0
theorem Ga {x : Nat} (h0 : Ut x 0 = true) (h1 : leB x KQ = true) : ∃ u : Int, un x = some u ∧ 0 ≤ u ∧ u ≤ 999999999 * unit := by
 obtain ⟨u, hu⟩ := qjj h0 h1
 have hz := kK yA
 have hm := kK Ze
 rw [qd7 hu hz] at h0
 rw [Xr hu hm] at h1
 exact ⟨u, hu, by simpa using h0, by simpa using h1⟩
theorem qay {u : Int} (h : u ≤ 999999999 * unit) : u < ((2 ^ 53 : Nat) : Int) * unit := by
 have := Int.mul_lt_mul_of_pos_right (show (999999999 : Int) < ((2 ^ 53 : Nat) : Int) by decide) qZ
 omega
theorem qgs {x y : Nat} (h0 : Ut x 0 = true) (h1 : leB x y = true) (h2 : leB y KQ = true) :
  ∃ u v : Int, un x = some u ∧ un y = some v ∧ 0 ≤ u ∧ u ≤ v ∧ v ≤ 999999999 * unit := by
 have hz := kK yA
 have hm := kK Ze
 have hy0 : ∃ v : Int, un y = some v := by
  unfold un
  cases hr : Ieee.double.read y with
  | number s m p => exact ⟨_, rfl⟩
  | nan s f =>
   have : Ieee.double.order y KQ = none := by unfold Ieee.Format.order; rw [hr]; rfl
   unfold leB at h2; rw [zo, this] at h2; cases h2
  | infinity s =>
   cases s
   ·have : Ieee.double.order y KQ = some .gt := by
     unfold Ieee.Format.order; rw [hr]
     have : Ieee.double.read KQ = .number false 8388607991611392 (-23) := by decide +kernel
     rw [this]; rfl
    unfold leB at h2; rw [zo, this] at h2; cases h2
   ·exfalso
    have hg : Ieee.double.order x y = some .gt ∨ Ieee.double.order x y = none ∨ Ieee.double.order x 0 = some .lt := by
     unfold Ieee.Format.order; rw [hr]
     cases hq : Ieee.double.read x with
     | number s m p => left; rfl
     | nan s f => right; left; rfl
     | infinity t =>
      cases t
      ·left; rfl
      ·right; right
       have : Ieee.double.read 0 = .number false 0 (-1074) := by decide +kernel
       rw [this]; rfl
    rcases hg with hg | hg | hg
    ·unfold leB at h1; rw [zo, hg] at h1; cases h1
    ·unfold leB at h1; rw [zo, hg] at h1; cases h1
    ·unfold Ut at h0; rw [zo, hg] at h0; cases h0
 obtain ⟨v, hv⟩ := hy0
 have Zq : ∃ u : Int, un x = some u := by
  cases hq : Ieee.double.read x with
  | number s m p => exact ⟨_, by unfold un; rw [hq]; rfl⟩
  | nan s f =>
   have : Ieee.double.order x 0 = none := by unfold Ieee.Format.order; rw [hq]; rfl
   unfold Ut at h0; rw [zo, this] at h0; cases h0
  | infinity s =>
   obtain ⟨t, a, b, hr, _, _⟩ := Kc hv
   cases s
   ·have : Ieee.double.order x y = some .gt := by unfold Ieee.Format.order; rw [hq, hr]; rfl
    unfold leB at h1; rw [zo, this] at h1; cases h1
   ·have : Ieee.double.order x 0 = some .lt := by
     unfold Ieee.Format.order; rw [hq]
     have : Ieee.double.read 0 = .number false 0 (-1074) := by decide +kernel
     rw [this]; rfl
    unfold Ut at h0; rw [zo, this] at h0; cases h0
 obtain ⟨u, hu⟩ := Zq
 rw [qd7 hu hz] at h0
 rw [Xr hu hv] at h1
 rw [Xr hv hm] at h2
 exact ⟨u, v, hu, hv, by simpa using h0, by simpa using h1, by simpa using h2⟩
theorem qjc {x y : Nat} {u v : Int} (hx : un x = some u) (hy : un y = some v) (h0 : 0 ≤ u) (h1 : u ≤ v) (h2 : v ≤ 999999999 * unit) (hu : u % unit = 0) (hv : v % unit = 0) :
  sp x y = some (u / unit, v / unit) := by
 have hx' : val x = some (u / unit) := by unfold val; rw [hx]; simp [hu]
 have hy' : val y = some (v / unit) := by unfold val; rw [hy]; simp [hv]
 refine JM hx' hy' (Int.ediv_nonneg h0 (Int.le_of_lt qZ)) (Int.ediv_le_ediv qZ h1) ?_
 have := Int.ediv_le_ediv qZ h2
 rwa [Int.mul_ediv_cancel _ (Int.ne_of_gt qZ)] at this
theorem KR {x y : Nat} {u : Int} (hx : un x = some u) (hy : un y = some (u / unit * unit)) :
  (u % unit = 0 → FloatKind.f64.format.order y x = some .eq) ∧ (u % unit ≠ 0 → FloatKind.f64.format.order y x = some .lt) := by
 have e := Int.mul_ediv_add_emod u unit
 have ep := Int.emod_nonneg u (Int.ne_of_gt qZ)
 rw [Int.mul_comm] at e
 rw [zo, Kd hy hx]
 constructor
 ·intro h; rw [h, Int.add_zero] at e; rw [e]; simp
 ·intro h
  have : u / unit * unit < u := by omega
  rw [Int.compare_eq_lt.2 this]
theorem Yp {x : Nat} {u : Int} (hx : un x = some u) (h0 : 0 ≤ u) (h1 : u ≤ 999999999 * unit) : floatToIntVal .f64 x .i64 = some (u / unit) := by
 have h := (WV hx h0 (qay h1)).2
 have hlo := Int.ediv_nonneg h0 (Int.le_of_lt qZ)
 have hhi := Int.ediv_le_ediv qZ h1
 rw [Int.mul_ediv_cancel _ (Int.ne_of_gt qZ)] at hhi
 unfold floatToIntVal
 have h' : (FloatKind.f64.decode x).toInt .zero = some (u / unit) := h
 rw [h']
 have b1 : IntKind.i64.min = -9223372036854775808 := rfl
 have b2 : IntKind.i64.max = 9223372036854775807 := rfl
 simp only [b1, b2]
 rw [if_pos ⟨by omega, by omega⟩]
theorem qbx (x : Nat) : FloatKind.f64.decode x = Ieee.double.read x := rfl
attribute [local irreducible] FloatKind.decode in
theorem Yr (x : Nat) (u : Int) (h : un x = some u) (h0 : 0 ≤ u) (h1 : u ≤ 999999999 * unit) :
  ∃ y, un y = some (u / unit * unit) ∧ ∀ w, Sem.run prog (callFunc 144 #[.float .f64 x]) w = .ok (.value (.float .f64 y)) w := by
 obtain ⟨s, m, p, hr, _, _⟩ := Kc h
 refine ⟨_, (WV h h0 (qay h1)).1, fun w => ?_⟩
 rw [run_callFunc_extern func144 (by kernel_rfl) (by kernel_rfl) (by kernel_rfl) (e := Extern.MathFloor.toIntegral "math.archTrunc" .zero) (by kernel_rfl)]
 have hd : FloatKind.f64.decode x = .number s m p := (qbx x).trans hr
 have hT : Extern.MathFloor.toIntegral "math.archTrunc" .zero #[.float .f64 x] = pure (.float .f64 (FloatKind.f64.encode ((Ieee.Datum.number s m p).integral .zero))) := by
  conv => lhs; whnf
  rw [hd]
 rw [hT, hr]
 rfl
theorem Ym (w : World) : Calls prog 40 #[] w fun e w' => e = .returned (.complex .f64 qf qf) ∧ w = w' := by
 go_enter func40, ntmps40
 go_wp2
 go_ret
 exact ⟨rfl, rfl⟩
theorem qdr (w : World) : Calls prog 41 #[] w fun e w' => e = .returned (.complex .f64 qf qf) ∧ w = w' := by
 go_enter func41, ntmps41
 go_wp2
 go_ret
 exact ⟨rfl, rfl⟩
theorem QP (x : Nat) (u : Int) (w : World) (h : un x = some u) (h0 : 0 ≤ u) (h1 : u ≤ 999999999 * unit) (hz : u % unit = 0) :
  Calls prog 110 #[.float .f64 x] w fun e w' => e = .returned (.bool true) ∧ w = w' := by
 obtain ⟨y, hy, kO⟩ := Yr x u h h0 h1
 have ho := (KR h hy).1 hz
 clear h h0 h1 hz hy
 go_enter func110, ntmps110
 go_wp2
 go_ret
 exact ⟨rfl, rfl⟩
theorem J8 (x : Nat) (u : Int) (w : World) (h : un x = some u) (h0 : 0 ≤ u) (h1 : u ≤ 999999999 * unit) (hz : u % unit ≠ 0) :
  Calls prog 110 #[.float .f64 x] w fun e w' => e = .returned (.bool false) ∧ w = w' := by
 obtain ⟨y, hy, kO⟩ := Yr x u h h0 h1
 have ho := (KR h hy).2 hz
 clear h h0 h1 hz hy
 go_enter func110, ntmps110
 go_wp2
 go_ret
 exact ⟨rfl, rfl⟩
end Go.Proofs.YtjgegohidhdbpaaGreatDoor
