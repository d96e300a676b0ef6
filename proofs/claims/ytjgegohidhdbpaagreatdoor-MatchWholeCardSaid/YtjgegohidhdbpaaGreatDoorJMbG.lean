/- Of no program: a step of a drawn region, its plain conditions by themselves. -/
import Derived.OrdersHeld
import Derived.WalkKit
import Derived.Deep.RegionHeld3
import Derived.Test.YtjgegohidhdbpaaGreatDoorJMaE
import Derived.Test.YtjgegohidhdbpaaGreatDoorJRxD
import Derived.Test.YtjgegohidhdbpaaGreatDoorJShelf
import Derived.Test.YtjgegohidhdbpaaGreatDoorJMaJ
open Go.Proofs.Tryz
set_option linter.unusedVariables false
set_option linter.unusedSimpArgs false
set_option maxRecDepth 100000
set_option maxHeartbeats 40000000
namespace Go.Proofs.YtjgegohidhdbpaaGreatDoor
open Go.RowKit
abbrev cZ : Array Value := #[.complex .f64 0 0, .complex .f64 0 0, .complex .f64 0 0, .complex .f64 0 0, .complex .f64 0 0, .complex .f64 0 0, .complex .f64 0 0, .complex .f64 0 0, .complex .f64 0 0, .complex .f64 0 0]
abbrev nA (k a b c d e f g h i : Int) : Array Value := #[.int .i64 k, .int .u64 a, .int .u64 b, .int .u64 c, .int .u64 d, .int .i64 e, .int .i64 f, .int .i64 g, .int .i64 h, .int .i64 i]
theorem tk {P : Program} {ops : Array Oper} {Q : Exit → Act → World → Prop} {md : Region.Mode} {S : World → Prop} {i : Nat} {oi : Oper} {v : Value} {fuel : Nat} {listed : Array Bool} {a : Act} {w : World} (hi : ops[i]? = some oi)
  (hy : ∀ w, S w → (execOp a.eval oi).run P w = .ok (.value v) w) (h : wpAnyH P md ops Q S fuel (listed.setIfInBounds i true) (a.put oi.dst v) w)
  (hs : Region.noSelect ops = true := by kernel_rfl) (hf : Region.free md ops listed i = true := by kernel_rfl) (hr : (Region.ready md ops listed).contains i = true := by kernel_rfl)
  (hW : Region.wanted oi (yielded ops a.tmps) = true := by kernel_rfl) (hQ : ∀ c a w, Q (.panic c) (a.put oi.dst v) w → Q (.panic c) a w := by exact fun _ _ _ h => h) (hS : S w := by assumption) : wpAnyH P md ops Q S (fuel + 1) listed a w :=
 wpAnyH_take hi hs hf hr hQ (Or.inl ⟨hW, hy⟩) hS h
theorem zm {α : Type} : (∀ (xs : List α) (i : Nat) (h : i < xs.toArray.size), xs.toArray[i] = xs[i]'(by simpa using h)) ∧ (∀ (a : α) (l : List α) (i : Nat) (h : i + 1 < (a :: l).length), (a :: l)[i + 1] = l[i]'(Nat.lt_of_succ_lt_succ h)) ∧ (∀ (a : α) (l : List α) (h : 0 < (a :: l).length), (a :: l)[0] = a) ∧ (∀ (xs : List α) (i : Nat) (a : α), xs.toArray.setIfInBounds i a = (xs.set i a).toArray) ∧ (∀ (a b : α) (l : List α), (a :: l).set 0 b = b :: l) ∧ (∀ (a b : α) (l : List α) (i : Nat), (a :: l).set (i + 1) b = a :: l.set i b) := by simp
theorem tq {P : Program} {ops : Array Oper} {Q : Exit → Act → World → Prop} {md : Region.Mode} {S : World → Prop} {oi : Oper} {v : Value} {fuel : Nat} {listed l' : Array Bool} {a a' : Act} {w : World} (i : Nat) (h : wpAnyH P md ops Q S fuel l' a' w) (hi : ops[i]? = some oi := by rfl)
 (hy : ∀ w, S w → (execOp a.eval oi).run P w = .ok (.value v) w := by (intro wq qi; (try dsimp only at qi); go_simp); (try rfl))
 (hl : listed.setIfInBounds i true = l' := by ((try simp only [Act.put, zm]); rfl)) (ha : a.put oi.dst v = a' := by ((try simp only [Act.put, zm]); rfl))
 (hs : Region.noSelect ops = true := by kernel_rfl) (hf : Region.free md ops listed i = true := by kernel_rfl) (hr : (Region.ready md ops listed).contains i = true := by kernel_rfl)
 (hW : Region.wanted oi (yielded ops a.tmps) = true := by kernel_rfl) (hQ : ∀ c a w, Q (.panic c) (a.put oi.dst v) w → Q (.panic c) a w := by exact fun _ _ _ h => h) (hS : S w := by assumption) : wpAnyH P md ops Q S (fuel + 1) listed a w := by
 subst hl ha
 exact tk (i := i) hi hy h hs hf hr hW hQ hS
theorem zU {P : Program} {ops : Array Oper} {Q : Exit → Act → World → Prop} {md : Region.Mode} {S : World → Prop} {fuel : Nat} {listed : Array Bool} {a : Act} {w : World} {o : Oper} (i : Nat) (h : ∀ K : Act → World → Prop, Shut (∀ a w, S w → (S w → wpAnyH P md ops Q S fuel (listed.setIfInBounds i true) a w) → K a w) → if Region.wanted o (yielded ops a.tmps) = true then Oper.wp P o a w K Q else K (a.put o.dst undef) w) (ho : ops[i]? = some o := by rfl) (hr : Region.ready md ops listed = [i] := by kernel_rfl) : wpAnyH P md ops Q S (fuel + 1) listed a w := wpAnyH_ready hr (by simp) (AllReadyH.cons ho h AllReadyH.nil)
open Go.Lib
def JS (f : Nat → Bool) (n : Nat) : Array Value := ((List.range n).map fun k => Value.int .u64 (wd f k)).toArray
structure qI (w : World) (b n : Nat) (f : Nat → Bool) : Prop where
 heap : w.heap[b]? = some (.cells (JS f n) 53 (0, 0))
theorem Ke (f : Nat → Bool) (n : Nat) : (JS f n).size = n := by simp [JS]
theorem Ge (f : Nat → Bool) (n j : Nat) (h : j < n) : (JS f n)[j]? = some (.int .u64 (wd f j)) := by simp [JS, h]
theorem qgw {f g : Nat → Bool} {n j : Nat} (h : ∀ k, k < n → k ≠ j → wd g k = wd f k) : (JS f n).setIfInBounds j (.int .u64 (wd g j)) = JS g n := by
 apply Array.ext_getElem?
 intro i
 rw [Array.getElem?_setIfInBounds]
 by_cases hi : i < n
 ·rw [Ge _ n i hi, Ge _ n i hi, Ke]
  by_cases e : j = i
  ·subst e; simp [hi]
  ·rw [if_neg e, h i hi (fun q => e q.symm)]
 ·have h1 : (JS f n)[i]? = none := Array.getElem?_eq_none (by rw [Ke]; omega)
  have h2 : (JS g n)[i]? = none := Array.getElem?_eq_none (by rw [Ke]; omega)
  rw [h1, h2, Ke]
  split <;> first | rfl | (split <;> first | rfl | omega)
section
variable {w : World} {b n : Nat} {f : Nat → Bool}
theorem qI.lt (h : qI w b n f) : b < w.heap.size := (Array.getElem?_eq_some_iff.1 h.heap).1
theorem qI.cell (h : qI w b n f) (j : Nat) (hj : j < n) : w.cell? ⟨b, j, none⟩ = some (.int .u64 (wd f j)) := by simp [World.cell?, h.heap, Ge f n j hj]
theorem qI.fz (h : qI w b n f) (j : Nat) : w.frozen? ⟨b, j, none⟩ = false := by simp [World.frozen?, h.heap]
theorem qI.below {B : Nat} {w' : World} (h : qI w b n f) (hB : Below B w w') (hb : b < B) : qI w' b n f := ⟨(hB.block b hb).trans h.heap⟩
theorem qI.alloc (h : qI w b n f) (o : Obj) : qI (w.alloc o) b n f := h.below (B := w.heap.size) ((Below.refl _ w).alloc (Nat.le_refl _) o) h.lt
theorem qI.drew (h : qI w b n f) : qI w.drew b n f := ⟨h.heap⟩
theorem qI.set (h : qI w b n f) (j : Nat) {g : Nat → Bool} (hg : ∀ k, k < n → k ≠ j → wd g k = wd f k) : qI (w.setCell ⟨b, j, none⟩ (.int .u64 (wd g j))) b n g := ⟨by rw [heap_setCell_same _ b j _ _ _ h.heap, qgw hg]⟩
theorem qI.other (h : qI w b n f) {p : Addr} (hp : b ≠ p.block) (u : Value) : qI (w.setCell p u) b n f := ⟨(Below.heap_setCell w p u b hp).trans h.heap⟩
theorem qI.put (h : qI w b n f) (p : Nat) : qI (w.setCell ⟨b, p / 64, none⟩ (.int .u64 (wd (fun i => f i || i == p) (p / 64)))) b n (fun i => f i || i == p) := h.set (p / 64) fun k _ hk => Zr f p k hk
end
structure qb (S : Nat → Prop) (w w' : World) : Prop where
 os : w'.os = w.os
 tape : w'.tape = w.tape
 output : w'.output = w.output
 size : w.heap.size ≤ w'.heap.size
 block : ∀ i, i < w.heap.size → ¬ S i → w'.heap[i]? = w.heap[i]?
section
variable {S S' : Nat → Prop} {a b c : World}
theorem qb.refl (S : Nat → Prop) (w : World) : qb S w w := ⟨rfl, rfl, rfl, Nat.le_refl _, fun _ _ _ => rfl⟩
theorem qb.trans (h : qb S a b) (k : qb S b c) : qb S a c := ⟨k.os.trans h.os, k.tape.trans h.tape, k.output.trans h.output, Nat.le_trans h.size k.size, fun i hi hs => (k.block i (Nat.lt_of_lt_of_le hi h.size) hs).trans (h.block i hi hs)⟩
theorem qb.mono (h : qb S a b) (hs : ∀ i, i < a.heap.size → S i → S' i) : qb S' a b := ⟨h.os, h.tape, h.output, h.size, fun i hi q => h.block i hi (fun r => q (hs i hi r))⟩
theorem qb.drew (h : qb S a b) : qb S a b.drew := ⟨h.os, h.tape, h.output, h.size, h.block⟩
theorem qb.alloc (h : qb S a b) (o : Obj) : qb S a (b.alloc o) := h.trans ⟨rfl, rfl, rfl, by simp, fun i hi _ => Below.heap_alloc _ _ _ hi⟩
theorem qb.setCell (h : qb S a b) {p : Addr} (hp : S p.block) (u : Value) : qb S a (b.setCell p u) :=
 h.trans ⟨rfl, rfl, rfl, by simp [World.setCell], fun i hi hs => Below.heap_setCell _ _ _ _ (fun e => hs (e ▸ hp))⟩
theorem qb.grown (h : qb S a b) {row : Option Nat} (hg : b.grownBy c row) (hr : ∀ k, row = some k → S k) : qb S a c :=
 h.trans ⟨hg.os, hg.tape, hg.output, hg.size, fun i hi hs => hg.block i hi (fun e => hs (hr i e.symm))⟩
theorem qb.below {B : Nat} (h : qb S a b) (hB : B ≤ a.heap.size) (hs : ∀ i, S i → B ≤ i) : Below B a b := ⟨h.os, h.tape, h.output, h.size, fun i hi => h.block i (by omega) (fun q => by have := hs i q; omega)⟩
theorem qb.of_below (h : Below a.heap.size a b) : qb S a b := ⟨h.os, h.tape, h.output, h.size, fun i hi _ => h.block i hi⟩
theorem qI.keeps {b' n : Nat} {f : Nat → Bool} (h : qI a b' n f) (k : qb S a b) (hs : ¬ S b') : qI b b' n f := ⟨(k.block b' h.lt hs).trans h.heap⟩
end
theorem qI.congr {w : World} {b n : Nat} {f g : Nat → Bool} (h : qI w b n f) (e : ∀ k, k < n → wd g k = wd f k) : qI w b n g := by
 have : JS g n = JS f n := by
  unfold JS
  rw [List.map_congr_left (g := fun k => Value.int .u64 (wd f k)) (fun k hk => by rw [e k (List.mem_range.1 hk)])]
 exact ⟨by rw [this]; exact h.heap⟩
theorem qI.new (w : World) (n : Nat) (f : Nat → Bool) : qI (w.alloc (.cells (JS f n) 53)) w.heap.size n f := ⟨by show (w.heap.push _)[w.heap.size]? = _; simp⟩
theorem qlA : (Tryz.prog.info? 53).map (fun i => (i.zero, i.size, i.bytes)) = some (some (.int .u64 0), 1, 8) := by kernel_rfl
theorem qgx (k : Nat) : wd (fun _ => false) k = 0 := (Qw (x := 0) (by omega) fun i hi => by rw [Nat.zero_testBit]).symm
theorem qjk (n : Nat) (hn : n ≤ 16777216) (w : World) : (Instr.makeSlice 77 (.int .i64 n) (.int .i64 n)).run prog w = .ok (.slice (some ⟨w.heap.size, 0, none⟩) n n) (w.alloc (.cells (JS (fun _ => false) n) 53)) := by
 obtain ⟨i, hi, QX, kF, vv⟩ := info_parts qlA
 have h := run_makeSlice (P := prog) w 77 53 i (.int .u64 0) underlying77 hi QX .i64 .i64 n n (by omega) (by omega) (by rw [kF]; omega) (by rw [vv]; omega) (by omega)
 rw [h]
 have e : madeCells (Value.int .u64 0).cells ((n : Int).toNat * i.size) = JS (fun _ => false) n := by
  rw [kF]
  apply Array.ext
  ·simp [madeCells, JS, Value.cells]
  ·intro i h1 h2
   simp [madeCells, JS, Value.cells, Nat.mod_one, qgx]
 rw [e]
 simp
theorem QJ (n : Nat) (hn : n ≤ 999999999) (w : World) :
  Calls prog 71 #[.int .i64 n] w fun e w' => e = .returned (.slice (some ⟨w.heap.size, 0, none⟩) (n / 64 + 1) (n / 64 + 1)) ∧ w' = w.alloc (.cells (JS (fun _ => false) (n / 64 + 1)) 53) := by
 have hm := qjk (n / 64 + 1) (by omega) w
 obtain ⟨m, hm0⟩ : ∃ m, m = n / 64 + 1 := ⟨_, rfl⟩
 rw [← hm0] at hm ⊢
 have e2 : (n : Int) / 64 + 1 = (m : Int) := by omega
 have HM := ξ hm0
 clear hm0
 go_enter func71, ntmps71
 go_wp2
 go_ret
 exact ⟨rfl, rfl⟩
theorem Ys (b n cap p : Nat) (f : Nat → Bool) (hn : p / 64 < n) (hp : p ≤ 999999999) (w : World) (h : qI w b n f) :
  Calls prog 61 #[.slice (some ⟨b, 0, none⟩) n cap, .int .i64 p] w fun e w' => e = .returned (.bool (f p)) ∧ w' = w := by
 have hc := h.cell (p / 64) hn
 have hb := qb8 f p
 obtain ⟨q, hq⟩ : ∃ q, q = p / 64 := ⟨_, rfl⟩
 obtain ⟨r, hr⟩ : ∃ r, r = p % 64 := ⟨_, rfl⟩
 have qaQ : r < 64 := by omega
 rw [← hq] at hc hb hn
 rw [← hr] at hb
 have e1 : (p : Int) / 64 = (q : Int) := by omega
 have e2 : (p : Int) % 64 = (r : Int) := by omega
 have HQ := ξ hq; have HR := ξ hr
 clear hq hr
 obtain ⟨v, hv⟩ : ∃ v, v = f p := ⟨_, rfl⟩
 have HE : (bits BinOp.and IntKind.u64 ((wd f q : Int) / 2 ^ r) 1 == 1) = v := by
  rw [hb, hv]
  cases f p <;> rfl
 rw [← hv]
 clear hb hv
 go_enter func61, ntmps61
 go_wp2
 go_ret
 exact ⟨rfl, rfl⟩
theorem WX (b n cap p : Nat) (f : Nat → Bool) (hn : p / 64 < n) (hp : p ≤ 999999999) (w : World) (h : qI w b n f) :
  Calls prog 148 #[.slice (some ⟨b, 0, none⟩) n cap, .int .i64 p] w fun e w' => e = .returned (.tuple #[]) ∧ w' = (w.setCell ⟨b, p / 64, none⟩ (.int .u64 (wd (fun i => f i || i == p) (p / 64)))).drew := by
 have hc := h.cell (p / 64) hn
 have hz := h.fz (p / 64)
 have hb := qb7 f p
 obtain ⟨x, hx⟩ : ∃ x, x = wd (fun i => f i || i == p) (p / 64) := ⟨_, rfl⟩
 rw [← hx] at hb ⊢
 obtain ⟨q, hq⟩ : ∃ q, q = p / 64 := ⟨_, rfl⟩
 obtain ⟨r, hr⟩ : ∃ r, r = p % 64 := ⟨_, rfl⟩
 have qaQ : r < 64 := by omega
 rw [← hq] at hc hz hb hn ⊢
 rw [← hr] at hb
 have e1 : (p : Int) / 64 = (q : Int) := by omega
 have e2 : (p : Int) % 64 = (r : Int) := by omega
 have HQ := ξ hq; have HR := ξ hr; have HX := ξ hx
 clear hq hr hx
 go_enter func148, ntmps148
 go_wp2_with fail
 go_region
 go_wp2
 go_end0
 exact ⟨rfl, rfl⟩
end Go.Proofs.YtjgegohidhdbpaaGreatDoor
namespace Go.Proofs.YtjgegohidhdbpaaGreatDoor
open Go.RowKit
theorem qiZ (b cap b' cap' n : Nat) (f g : Nat → Bool) (hn : n ≤ 16777216) (hne : b ≠ b') (w : World) (h : qI w b n f) (h' : qI w b' n g) :
  Calls prog 133 #[.slice (some ⟨b, 0, none⟩) n cap, .slice (some ⟨b', 0, none⟩) n cap'] w fun e w' => e = .returned (.tuple #[]) ∧ qI w' b n (fun i => f i || g i) ∧ qb (fun i => i = b) w w' := by
 have hlim : ∀ k, n ≤ k → True := fun _ _ => trivial
 go_enter func133, ntmps133
 go_wp2
 go_loopw [8] (fun i wr => ∃ k : Nat, k ≤ n ∧ i = .int .i64 k ∧ qI wr b n (fun i => f i || (g i && decide (i < 64 * k))) ∧ qI wr b' n g ∧ qb (fun i => i = b) w wr) (fun i _ => n - (RowKit.intOf i).toNat)
 case atStart =>
  refine ⟨0, by omega, rfl, ?_, h', .refl _ _⟩
  have e : (fun i => f i || (g i && decide (i < 64 * 0))) = f := by funext i; simp
  rw [e]; exact h
 case round =>
  obtain ⟨k, hk, rfl, r1, r2, rK⟩ := hrel
  by_cases zb : k < n
  ·have c1 := r1.cell k zb
   have z1 := r1.fz k
   have c2 := r2.cell k zb
   have hor := qff (fun i => f i || (g i && decide (i < 64 * k))) g k
   have Xn := r1.set k (g := fun i => f i || (g i && decide (i < 64 * (k + 1)))) (fun j hj hjk => kE fun i hi => by
    have : (64 * j + i < 64 * (k + 1)) ↔ (64 * j + i < 64 * k) := by omega
    simp [this])
   have hw : wd (fun i => (f i || (g i && decide (i < 64 * k))) || g i) k = wd (fun i => f i || (g i && decide (i < 64 * (k + 1)))) k := kE fun i hi => by
    have h1 : 64 * k + i < 64 * (k + 1) := by omega
    have h2 : ¬ 64 * k + i < 64 * k := by omega
    simp [h1, h2]
   rw [hw] at hor
   clear hw
   obtain ⟨x, hx⟩ : ∃ x, x = wd (fun i => f i || (g i && decide (i < 64 * (k + 1)))) k := ⟨_, rfl⟩
   rw [← hx] at hor Xn
   have HX := ξ hx
   have HS := ξ Xn
   clear hx Xn
   generalize wd (fun i => f i || (g i && decide (i < 64 * k))) k = y at *
   generalize wd g k = z at *
   go_wp2
   go_roundw
   case rel =>
    exact ⟨k + 1, by omega, by simp, HS.out, r2.other (p := ⟨b, k, none⟩) (fun e => hne e.symm) _, rK.setCell (p := ⟨b, k, none⟩) rfl _⟩
   case measure => (simp [RowKit.intOf]) <;> omega
  ·obtain rfl : k = n := by omega
   have KD : qI wr b k (fun i => f i || g i) := r1.congr fun j hj => kE fun i hi => by
    have : 64 * j + i < 64 * k := by omega
    simp [this]
   go_wp2
   go_end0
   exact ⟨rfl, KD, rK⟩
theorem Xs (b cap n p : Nat) (f : Nat → Bool) (hn : n ≤ 16777216) (hp : p ≤ 1000000000) (hf : ∀ i, 64 * n ≤ i → f i = false) (w : World) (hT : TabAt 0 Lib.deBruijn64tab w) (h : qI w b n f) :
  Calls prog 45 #[.slice (some ⟨b, 0, none⟩) n cap, .int .i64 p] w fun e w' => (∃ r, e = .returned (.int .i64 r) ∧ yL f p r) ∧ w' = w := by
 have h00 : ∀ i, p ≤ i → i < 64 * (p / 64) → f i = false := fun i h1 h2 => by omega
 have H0 := ξ h00
 have HF := ξ hf
 clear h00 hf
 obtain ⟨q, hq⟩ : ∃ q, q = p / 64 := ⟨_, rfl⟩
 obtain ⟨r, hr⟩ : ∃ r, r = p % 64 := ⟨_, rfl⟩
 have qaQ : r < 64 := by omega
 have hq64 : q ≤ 15625000 := by omega
 have e1 : (p : Int) / 64 = (q : Int) := by omega
 have e2 : (p : Int) % 64 = (r : Int) := by omega
 have hpq : 64 * q ≤ p ∧ p < 64 * (q + 1) := by omega
 have HQ := ξ hq; have HR := ξ hr
 clear hq hr
 go_enter func45, ntmps45
 go_wp2
 go_loopw [5] (fun i wr => ∃ k : Nat, k ≤ 16777216 ∧ q ≤ k ∧ i = .int .i64 k ∧ (∀ i, p ≤ i → i < 64 * k → f i = false) ∧ wr = w) (fun i _ => 16777217 - (RowKit.intOf i).toNat)
 case atStart =>
  exact ⟨q, by omega, Nat.le_refl _, rfl, by rw [HQ.out]; exact H0.out, rfl⟩
 case round =>
  obtain ⟨k, hk, hqk, rfl, hb, rfl⟩ := hrel
  have HB := ξ hb
  clear hb
  by_cases zb : k < n
  ·have c1 := h.cell k zb
   obtain ⟨x, hx⟩ : ∃ x, x = wd (fun i => f i && decide (p ≤ i)) k := ⟨_, rfl⟩
   have HX := ξ hx
   have hxl : x < 18446744073709551616 := by rw [hx]; exact zQ _ _
   have HM : x = 0 → ∀ i, p ≤ i → i < 64 * (k + 1) → f i = false := fun e => qaR HB.out (by rw [← hx]; exact e)
   have HH : x ≠ 0 → yL f p (64 * (k : Int) + (Lib.ctz 64 x : Int)) := fun e => by rw [hx]; exact qca HB.out (by rw [← hx]; exact e)
   have VX : x ≠ 0 → Lib.ctz 64 x < 64 := fun e => (YL hxl e).1
   have HM := ξ HM; have HH := ξ HH
   by_cases hkq : k = q
   ·subst hkq
    have hm := qaP f p
    rw [← HQ.out, ← HR.out, ← hx] at hm
    clear hx
    generalize wd f k = y at *
    by_cases Zq : x = 0
    ·subst Zq
     go_wp2
     go_roundw
     case rel => exact ⟨k + 1, by omega, by omega, by simp, HM.out rfl, trivial⟩
     case measure => (simp [RowKit.intOf]) <;> omega
    ·have HT := ξ (qhY x hxl Zq wr hT)
     have qjl := VX Zq
     have hxz : ((x : Int) != 0) = true := by simpa using Zq
     have HR := ξ (HH.out Zq)
     clear HH HM VX
     generalize Lib.ctz 64 x = z at *
     go_wp2_with fail
     refine HT.out.mono ?_
     rintro e w1 ⟨rfl, rfl⟩
     go_wp2
     go_ret
     exact ⟨⟨_, rfl, HR.out⟩, rfl⟩
   ·have Kq := qcb (f := f) (p := p) (k := k) (by omega)
    rw [← hx] at Kq
    rw [← Kq] at c1
    have hkq' : ((k : Int) == (q : Int)) = false := by rw [beq_eq_false_iff_ne]; omega
    clear Kq hx
    by_cases Zq : x = 0
    ·subst Zq
     go_wp2
     go_roundw
     case rel => exact ⟨k + 1, by omega, by omega, by simp, HM.out rfl, trivial⟩
     case measure => (simp [RowKit.intOf]) <;> omega
    ·have HT := ξ (qhY x hxl Zq wr hT)
     have qjl := VX Zq
     have hxz : ((x : Int) != 0) = true := by simpa using Zq
     have HR := ξ (HH.out Zq)
     clear HH HM VX
     generalize Lib.ctz 64 x = z at *
     go_wp2_with fail
     refine HT.out.mono ?_
     rintro e w1 ⟨rfl, rfl⟩
     go_wp2
     go_ret
     exact ⟨⟨_, rfl, HR.out⟩, rfl⟩
  ·have qbj : yL f p (-1) := .inl ⟨rfl, fun i hi => by
    rcases Nat.lt_or_ge i (64 * k) with c | c
    ·exact HB.out i hi c
    ·exact HF.out i (by omega)⟩
   go_wp2
   go_ret
   exact ⟨⟨_, rfl, qbj⟩, rfl⟩
theorem qd8 (v : Value) (p : Int) (hp : p < 0) (w : World) :
  Calls prog 43 #[v, .int .i64 p] w fun e w' => e = .returned (.int .i64 (-1)) ∧ w' = w := by
 go_enter func43, ntmps43
 go_wp2
 go_ret
 exact ⟨rfl, rfl⟩
theorem Gf (b cap n p : Nat) (f : Nat → Bool) (hn : n ≤ 16777216) (hp : p / 64 < n) (w : World) (h : qI w b n f) :
  Calls prog 43 #[.slice (some ⟨b, 0, none⟩) n cap, .int .i64 p] w fun e w' => (∃ r, e = .returned (.int .i64 r) ∧ XW f p r) ∧ w' = w := by
 have h00 : ∀ i, 64 * (p / 64 + 1) ≤ i → i ≤ p → f i = false := fun i h1 h2 => by omega
 have H0 := ξ h00
 clear h00
 obtain ⟨q, hq⟩ : ∃ q, q = p / 64 := ⟨_, rfl⟩
 obtain ⟨r, hr⟩ : ∃ r, r = p % 64 := ⟨_, rfl⟩
 have qaQ : r < 64 := by omega
 have e1 : (p : Int) / 64 = (q : Int) := by omega
 have e2 : (p : Int) % 64 = (r : Int) := by omega
 have e3 : (63 : Int) - (r : Int) = ((63 - r : Nat) : Int) := by omega
 have hpq : 64 * q ≤ p ∧ p < 64 * (q + 1) := by omega
 have hqn : q < n := by omega
 have HQ := ξ hq; have HR := ξ hr
 clear hq hr hp
 go_enter func43, ntmps43
 go_wp2
 go_loopw [5] (fun i wr => ∃ k : Nat, k ≤ q + 1 ∧ i = .int .i64 ((k : Int) - 1) ∧ (∀ i, 64 * k ≤ i → i ≤ p → f i = false) ∧ wr = w) (fun i _ => (RowKit.intOf i + 1).toNat)
 case atStart =>
  exact ⟨q + 1, by omega, by simp, by rw [HQ.out]; exact H0.out, rfl⟩
 case round =>
  obtain ⟨k, hk, rfl, hb, rfl⟩ := hrel
  have HB := ξ hb
  clear hb
  by_cases zb : 0 < k
  ·obtain ⟨m, rfl⟩ : ∃ m, k = m + 1 := ⟨k - 1, by omega⟩
   have ek : (((m + 1 : Nat) : Int)) - 1 = (m : Int) := by omega
   rw [ek]
   clear ek
   have c1 := h.cell m (by omega)
   obtain ⟨x, hx⟩ : ∃ x, x = wd (fun i => f i && decide (i ≤ p)) m := ⟨_, rfl⟩
   have HX := ξ hx
   have hxl : x < 18446744073709551616 := by rw [hx]; exact zQ _ _
   have HM : x = 0 → ∀ i, 64 * m ≤ i → i ≤ p → f i = false := fun e => qfh HB.out (by rw [← hx]; exact e)
   have HH : x ≠ 0 → XW f p (64 * (m : Int) + (Lib.bitLen x : Int) - 1) := fun e => by rw [hx]; exact qhK HB.out (by rw [← hx]; exact e)
   have VX : x ≠ 0 → Lib.bitLen x ≤ 64 := fun e => by
    obtain ⟨r, h0, h1, _⟩ := GR (f := fun i => f i && decide (i ≤ p)) (k := m) (by rw [← hx]; exact e)
    rw [← hx] at h0
    omega
   have HM := ξ HM; have HH := ξ HH
   by_cases hkq : m = q
   ·subst hkq
    have hm := qfg f p
    rw [← HQ.out, ← HR.out, ← hx] at hm
    clear hx
    generalize wd f m = y at *
    by_cases Zq : x = 0
    ·subst Zq
     go_wp2
     go_roundw
     case rel => exact ⟨m, by omega, rfl, HM.out rfl, trivial⟩
     case measure => (simp [RowKit.intOf]) <;> omega
    ·have HT := ξ (Tryz.bits_Len64 (x : Int) wr (by omega) (by omega))
     have qjl := VX Zq
     have hxz : ((x : Int) != 0) = true := by simpa using Zq
     have HR := ξ (HH.out Zq)
     clear HH HM VX
     rw [Int.toNat_natCast] at HT
     generalize Lib.bitLen x = z at *
     go_wp2_with fail
     refine HT.out.mono ?_
     rintro e w1 ⟨rfl, rfl⟩
     go_wp2
     go_ret
     exact ⟨⟨_, rfl, HR.out⟩, rfl⟩
   ·have Kq := qcc (f := f) (p := p) (k := m) (by omega)
    rw [← hx] at Kq
    rw [← Kq] at c1
    have hkq' : ((m : Int) == (q : Int)) = false := by rw [beq_eq_false_iff_ne]; omega
    clear Kq hx
    by_cases Zq : x = 0
    ·subst Zq
     go_wp2
     go_roundw
     case rel => exact ⟨m, by omega, rfl, HM.out rfl, trivial⟩
     case measure => (simp [RowKit.intOf]) <;> omega
    ·have HT := ξ (Tryz.bits_Len64 (x : Int) wr (by omega) (by omega))
     have qjl := VX Zq
     have hxz : ((x : Int) != 0) = true := by simpa using Zq
     have HR := ξ (HH.out Zq)
     clear HH HM VX
     rw [Int.toNat_natCast] at HT
     generalize Lib.bitLen x = z at *
     go_wp2_with fail
     refine HT.out.mono ?_
     rintro e w1 ⟨rfl, rfl⟩
     go_wp2
     go_ret
     exact ⟨⟨_, rfl, HR.out⟩, rfl⟩
  ·obtain rfl : k = 0 := by omega
   have qbj : XW f p (-1) := .inl ⟨rfl, fun i hi => HB.out i (by omega) (by omega)⟩
   go_wp2
   go_ret
   exact ⟨⟨_, rfl, qbj⟩, rfl⟩
theorem qdW (G : Gs) (n : Nat) (hn : n < 10) (w : World) :
  Calls prog 124 #[.int .u16 (gw G), .int .i64 n] w fun e w' => e = .returned (.bool (G n)) ∧ w' = w := by
 have hb := qi4 G hn
 obtain ⟨v, hv⟩ : ∃ v, v = G n := ⟨_, rfl⟩
 have HE : (bits BinOp.and IntKind.u16 ((gw G : Int) / 2 ^ n) 1 == 1) = v := by
  rw [hb, hv]
  cases G n <;> rfl
 rw [← hv]
 clear hb hv
 go_enter func124, ntmps124
 go_wp2
 go_ret
 exact ⟨rfl, rfl⟩
def K3 (S : Sem) : Value := .agg #[.int .u16 (gw S.asked), .int .u16 (gw S.always), .int .u16 (gw S.ever)]
structure Xm (w : World) (b j : Nat) (S : Sem) : Prop where
 c0 : w.cell? ⟨b, j * 3, none⟩ = some (.int .u16 (gw S.asked))
 c1 : w.cell? ⟨b, j * 3 + 1, none⟩ = some (.int .u16 (gw S.always))
 c2 : w.cell? ⟨b, j * 3 + 2, none⟩ = some (.int .u16 (gw S.ever))
def Je (x : Nd) : Value := .agg #[.int .i64 x.kind, .int .u64 x.w0, .int .u64 x.w1, .int .u64 x.w2, .int .u64 x.w3, .int .i64 x.a, .int .i64 x.b, .int .i64 x.mn, .int .i64 x.mx, .int .i64 x.n]
theorem qby (s : List UInt8) (x : Nd) (hL : T.Lok (.leaf x)) (b n cap : Nat) (w : World) :
  Calls prog 122 #[Je x, .slice (some ⟨b, 0, none⟩) n cap] w fun e w' => e = .returned (K3 (zi s x)) ∧ Below w.heap.size w w' := by
 have hv : K3 (zi s x) = .agg #[.int .u16 (gw (zi s x).asked), .int .u16 0, .int .u16 0] := by
  unfold K3 zi
  rw [qgl]
  rfl
 rw [hv]
 clear hv
 obtain ⟨kd, w0, w1, w2, w3, xa, xb, m, M, xn⟩ := x
 have Yt : kd ≠ 8 → (gw (zi s ⟨kd, w0, w1, w2, w3, xa, xb, m, M, xn⟩).asked : Int) = 0 := fun h => by
  have : gw (zi s ⟨kd, w0, w1, w2, w3, xa, xb, m, M, xn⟩).asked = 0 := by
   rw [yi, jg]
   intro g _
   simp [zi, h]
  rw [this]; rfl
 unfold Je
 simp only
 simp only [T.Lok] at hL
 have HB := ξ (((Below.refl w.heap.size w).alloc (Nat.le_refl _) (.cells (nA kd w0 w1 w2 w3 xa xb m M xn) 57)).alloc (by simp) (.cells #[.int .u16 0, .int .u16 0, .int .u16 0] 135))
 rcases hL with rfl | rfl | rfl | rfl | rfl | ⟨rfl, h1, h2⟩
 ·rw [Yt (by decide)]
  go_enter func122, ntmps122
  go_wp2
  refine bodyPost_ret (v := .agg #[.int .u16 0, .int .u16 0, .int .u16 0]) (by simp [results, results122, go_sem]) rfl ⟨rfl, HB.out⟩
 ·rw [Yt (by decide)]
  go_enter func122, ntmps122
  go_wp2
  refine bodyPost_ret (v := .agg #[.int .u16 0, .int .u16 0, .int .u16 0]) (by simp [results, results122, go_sem]) rfl ⟨rfl, HB.out⟩
 ·rw [Yt (by decide)]
  go_enter func122, ntmps122
  go_wp2
  refine bodyPost_ret (v := .agg #[.int .u16 0, .int .u16 0, .int .u16 0]) (by simp [results, results122, go_sem]) rfl ⟨rfl, HB.out⟩
 ·rw [Yt (by decide)]
  go_enter func122, ntmps122
  go_wp2
  refine bodyPost_ret (v := .agg #[.int .u16 0, .int .u16 0, .int .u16 0]) (by simp [results, results122, go_sem]) rfl ⟨rfl, HB.out⟩
 ·rw [Yt (by decide)]
  go_enter func122, ntmps122
  go_wp2
  refine bodyPost_ret (v := .agg #[.int .u16 0, .int .u16 0, .int .u16 0]) (by simp [results, results122, go_sem]) rfl ⟨rfl, HB.out⟩
 ·obtain ⟨N, rfl⟩ := Int.eq_ofNat_of_zero_le (show 0 ≤ xn by omega)
  have j6 := qdO (n := N) (by omega)
  have qdS : gw (zi s ⟨8, w0, w1, w2, w3, xa, xb, m, M, (N : Int)⟩).asked = gw (fun g => decide (N = g)) := Z7 fun g _ => by simp [zi]
  rw [qdS]
  generalize gw (fun g => decide (N = g)) = y at *
  clear qdS Yt
  have hN : N < 10 := by omega
  have jk := ξ (((Below.refl w.heap.size w).alloc (Nat.le_refl _) (.cells (nA 8 w0 w1 w2 w3 xa xb m M N) 57)).alloc (by simp) (.cells #[.int .u16 y, .int .u16 0, .int .u16 0] 135))
  go_enter func122, ntmps122
  go_wp2
  refine bodyPost_ret (v := .agg #[.int .u16 y, .int .u16 0, .int .u16 0]) (by simp [results, results122, go_sem]) rfl ⟨rfl, jk.out⟩
theorem qd9 (b n cap p q z1 z2 z3 z4 z5 z6 y0 y1 y2 y3 : Nat) (hpn : p < n) (hqn : q < n) (hn : n ≤ 120) (w : World) (a0 : w.cell? ⟨b, p * 3, none⟩ = some (.int .u16 (z1 : Nat))) (a1 : w.cell? ⟨b, p * 3 + 1, none⟩ = some (.int .u16 (z2 : Nat))) (a2 : w.cell? ⟨b, p * 3 + 2, none⟩ = some (.int .u16 (z3 : Nat))) (b0 : w.cell? ⟨b, q * 3, none⟩ = some (.int .u16 (z4 : Nat))) (b1 : w.cell? ⟨b, q * 3 + 1, none⟩ = some (.int .u16 (z5 : Nat))) (b2 : w.cell? ⟨b, q * 3 + 2, none⟩ = some (.int .u16 (z6 : Nat))) (g1 : bits .andNot .u16 z4 z2 = (y0 : Int)) (g2 : bits .or .u16 z1 y0 = (y1 : Int)) (g3 : bits .or .u16 z2 z5 = (y2 : Int)) (g4 : bits .or .u16 z3 z6 = (y3 : Int)) :
  Calls prog 122 #[.agg (nA 4 0 0 0 0 p q 0 0 0), .slice (some ⟨b, 0, none⟩) n cap] w fun e w' => e = .returned (.agg #[.int .u16 y1, .int .u16 y2, .int .u16 y3]) ∧ Below w.heap.size w w' := by
 have qgy : b < w.heap.size := yc a0
 have a0_1 := qa (.cells (nA 4 0 0 0 0 p q 0 0 0) 57) a0
 have a0_2 := qa (.cells #[.int .u16 0, .int .u16 0, .int .u16 0] 135) a0_1
 have a0_3 := qa (.cells #[.int .u16 0, .int .u16 0, .int .u16 0] 135) a0_2
 have a0_4 := qa (.cells #[.int .u16 0, .int .u16 0, .int .u16 0] 135) a0_3
 have a1_1 := qa (.cells (nA 4 0 0 0 0 p q 0 0 0) 57) a1
 have a1_2 := qa (.cells #[.int .u16 0, .int .u16 0, .int .u16 0] 135) a1_1
 have a1_3 := qa (.cells #[.int .u16 0, .int .u16 0, .int .u16 0] 135) a1_2
 have a1_4 := qa (.cells #[.int .u16 0, .int .u16 0, .int .u16 0] 135) a1_3
 have a2_1 := qa (.cells (nA 4 0 0 0 0 p q 0 0 0) 57) a2
 have a2_2 := qa (.cells #[.int .u16 0, .int .u16 0, .int .u16 0] 135) a2_1
 have a2_3 := qa (.cells #[.int .u16 0, .int .u16 0, .int .u16 0] 135) a2_2
 have a2_4 := qa (.cells #[.int .u16 0, .int .u16 0, .int .u16 0] 135) a2_3
 have b0_1 := qa (.cells (nA 4 0 0 0 0 p q 0 0 0) 57) b0
 have b0_2 := qa (.cells #[.int .u16 0, .int .u16 0, .int .u16 0] 135) b0_1
 have b0_3 := qa (.cells #[.int .u16 0, .int .u16 0, .int .u16 0] 135) b0_2
 have b0_4 := qa (.cells #[.int .u16 0, .int .u16 0, .int .u16 0] 135) b0_3
 have b1_1 := qa (.cells (nA 4 0 0 0 0 p q 0 0 0) 57) b1
 have b1_2 := qa (.cells #[.int .u16 0, .int .u16 0, .int .u16 0] 135) b1_1
 have b1_3 := qa (.cells #[.int .u16 0, .int .u16 0, .int .u16 0] 135) b1_2
 have b1_4 := qa (.cells #[.int .u16 0, .int .u16 0, .int .u16 0] 135) b1_3
 have b2_1 := qa (.cells (nA 4 0 0 0 0 p q 0 0 0) 57) b2
 have b2_2 := qa (.cells #[.int .u16 0, .int .u16 0, .int .u16 0] 135) b2_1
 have b2_3 := qa (.cells #[.int .u16 0, .int .u16 0, .int .u16 0] 135) b2_2
 have b2_4 := qa (.cells #[.int .u16 0, .int .u16 0, .int .u16 0] 135) b2_3
 have b0_s := qa (.cells #[.int .u16 0, .int .u16 0, .int .u16 0] 135) (qa (.cells #[.int .u16 z1, .int .u16 z2, .int .u16 z3] 135) b0_2)
 have b0_t := qa (.cells #[.int .u16 z1, .int .u16 z2, .int .u16 z3] 135) (qa (.cells #[.int .u16 0, .int .u16 0, .int .u16 0] 135) b0_2)
 have b1_s := qa (.cells #[.int .u16 0, .int .u16 0, .int .u16 0] 135) (qa (.cells #[.int .u16 z1, .int .u16 z2, .int .u16 z3] 135) b1_2)
 have b1_t := qa (.cells #[.int .u16 z1, .int .u16 z2, .int .u16 z3] 135) (qa (.cells #[.int .u16 0, .int .u16 0, .int .u16 0] 135) b1_2)
 have b2_s := qa (.cells #[.int .u16 0, .int .u16 0, .int .u16 0] 135) (qa (.cells #[.int .u16 z1, .int .u16 z2, .int .u16 z3] 135) b2_2)
 have b2_t := qa (.cells #[.int .u16 z1, .int .u16 z2, .int .u16 z3] 135) (qa (.cells #[.int .u16 0, .int .u16 0, .int .u16 0] 135) b2_2)
 go_enter func122, ntmps122
 go_wp2_with fail
 go_region
 all_goals
  clear a0_1 a0_2 a0_3 a0_4 a1_1 a1_2 a1_3 a1_4 a2_1 a2_2 a2_3 a2_4 b0_1 b0_2 b0_3 b0_4 b1_1 b1_2 b1_3 b1_4 b2_1 b2_2 b2_3 b2_4 b0_s b0_t b1_s b1_t b2_s b2_t
  go_wp2
  refine bodyPost_ret (v := .agg #[.int .u16 y1, .int .u16 y2, .int .u16 y3]) (by simp [results, results122, go_sem]) rfl ⟨rfl, ?_⟩
  refine Below.drew (Below.alloc (Below.alloc (Below.alloc (Below.alloc (Below.refl _ _) ?_ _) ?_ _) ?_ _) ?_ _) <;> first | exact Nat.le_refl _ | (simp only [World.size_alloc]; omega)
theorem qea (b n cap p q z1 z2 z3 z4 z5 z6 y0 y1 y2 y3 : Nat) (hpn : p < n) (hqn : q < n) (hn : n ≤ 120) (w : World) (a0 : w.cell? ⟨b, p * 3, none⟩ = some (.int .u16 (z1 : Nat))) (a1 : w.cell? ⟨b, p * 3 + 1, none⟩ = some (.int .u16 (z2 : Nat))) (a2 : w.cell? ⟨b, p * 3 + 2, none⟩ = some (.int .u16 (z3 : Nat))) (b0 : w.cell? ⟨b, q * 3, none⟩ = some (.int .u16 (z4 : Nat))) (b1 : w.cell? ⟨b, q * 3 + 1, none⟩ = some (.int .u16 (z5 : Nat))) (b2 : w.cell? ⟨b, q * 3 + 2, none⟩ = some (.int .u16 (z6 : Nat))) (g2 : bits .or .u16 z1 z4 = (y1 : Int)) (g3 : bits .and .u16 z2 z5 = (y2 : Int)) (g4 : bits .or .u16 z3 z6 = (y3 : Int)) :
  Calls prog 122 #[.agg (nA 5 0 0 0 0 p q 0 0 0), .slice (some ⟨b, 0, none⟩) n cap] w fun e w' => e = .returned (.agg #[.int .u16 y1, .int .u16 y2, .int .u16 y3]) ∧ Below w.heap.size w w' := by
 have qgy : b < w.heap.size := yc a0
 have a0_1 := qa (.cells (nA 5 0 0 0 0 p q 0 0 0) 57) a0
 have a0_2 := qa (.cells #[.int .u16 0, .int .u16 0, .int .u16 0] 135) a0_1
 have a0_3 := qa (.cells #[.int .u16 0, .int .u16 0, .int .u16 0] 135) a0_2
 have a0_4 := qa (.cells #[.int .u16 0, .int .u16 0, .int .u16 0] 135) a0_3
 have a1_1 := qa (.cells (nA 5 0 0 0 0 p q 0 0 0) 57) a1
 have a1_2 := qa (.cells #[.int .u16 0, .int .u16 0, .int .u16 0] 135) a1_1
 have a1_3 := qa (.cells #[.int .u16 0, .int .u16 0, .int .u16 0] 135) a1_2
 have a1_4 := qa (.cells #[.int .u16 0, .int .u16 0, .int .u16 0] 135) a1_3
 have a2_1 := qa (.cells (nA 5 0 0 0 0 p q 0 0 0) 57) a2
 have a2_2 := qa (.cells #[.int .u16 0, .int .u16 0, .int .u16 0] 135) a2_1
 have a2_3 := qa (.cells #[.int .u16 0, .int .u16 0, .int .u16 0] 135) a2_2
 have a2_4 := qa (.cells #[.int .u16 0, .int .u16 0, .int .u16 0] 135) a2_3
 have b0_1 := qa (.cells (nA 5 0 0 0 0 p q 0 0 0) 57) b0
 have b0_2 := qa (.cells #[.int .u16 0, .int .u16 0, .int .u16 0] 135) b0_1
 have b0_3 := qa (.cells #[.int .u16 0, .int .u16 0, .int .u16 0] 135) b0_2
 have b0_4 := qa (.cells #[.int .u16 0, .int .u16 0, .int .u16 0] 135) b0_3
 have b1_1 := qa (.cells (nA 5 0 0 0 0 p q 0 0 0) 57) b1
 have b1_2 := qa (.cells #[.int .u16 0, .int .u16 0, .int .u16 0] 135) b1_1
 have b1_3 := qa (.cells #[.int .u16 0, .int .u16 0, .int .u16 0] 135) b1_2
 have b1_4 := qa (.cells #[.int .u16 0, .int .u16 0, .int .u16 0] 135) b1_3
 have b2_1 := qa (.cells (nA 5 0 0 0 0 p q 0 0 0) 57) b2
 have b2_2 := qa (.cells #[.int .u16 0, .int .u16 0, .int .u16 0] 135) b2_1
 have b2_3 := qa (.cells #[.int .u16 0, .int .u16 0, .int .u16 0] 135) b2_2
 have b2_4 := qa (.cells #[.int .u16 0, .int .u16 0, .int .u16 0] 135) b2_3
 have b0_s := qa (.cells #[.int .u16 0, .int .u16 0, .int .u16 0] 135) (qa (.cells #[.int .u16 z1, .int .u16 z2, .int .u16 z3] 135) b0_2)
 have b0_t := qa (.cells #[.int .u16 z1, .int .u16 z2, .int .u16 z3] 135) (qa (.cells #[.int .u16 0, .int .u16 0, .int .u16 0] 135) b0_2)
 have b1_s := qa (.cells #[.int .u16 0, .int .u16 0, .int .u16 0] 135) (qa (.cells #[.int .u16 z1, .int .u16 z2, .int .u16 z3] 135) b1_2)
 have b1_t := qa (.cells #[.int .u16 z1, .int .u16 z2, .int .u16 z3] 135) (qa (.cells #[.int .u16 0, .int .u16 0, .int .u16 0] 135) b1_2)
 have b2_s := qa (.cells #[.int .u16 0, .int .u16 0, .int .u16 0] 135) (qa (.cells #[.int .u16 z1, .int .u16 z2, .int .u16 z3] 135) b2_2)
 have b2_t := qa (.cells #[.int .u16 z1, .int .u16 z2, .int .u16 z3] 135) (qa (.cells #[.int .u16 0, .int .u16 0, .int .u16 0] 135) b2_2)
 go_enter func122, ntmps122
 go_wp2_with fail
 go_region
 all_goals
  clear a0_1 a0_2 a0_3 a0_4 a1_1 a1_2 a1_3 a1_4 a2_1 a2_2 a2_3 a2_4 b0_1 b0_2 b0_3 b0_4 b1_1 b1_2 b1_3 b1_4 b2_1 b2_2 b2_3 b2_4 b0_s b0_t b1_s b1_t b2_s b2_t
  go_wp2
  refine bodyPost_ret (v := .agg #[.int .u16 y1, .int .u16 y2, .int .u16 y3]) (by simp [results, results122, go_sem]) rfl ⟨rfl, ?_⟩
  refine Below.drew (Below.alloc (Below.alloc (Below.alloc (Below.alloc (Below.refl _ _) ?_ _) ?_ _) ?_ _) ?_ _) <;> first | exact Nat.le_refl _ | (simp only [World.size_alloc]; omega)
theorem WY (b n cap p z1 z2 z3 : Nat) (M : Int) (hpn : p < n) (hn : n ≤ 120) (w : World) (a0 : w.cell? ⟨b, p * 3, none⟩ = some (.int .u16 (z1 : Nat))) (a1 : w.cell? ⟨b, p * 3 + 1, none⟩ = some (.int .u16 (z2 : Nat))) (a2 : w.cell? ⟨b, p * 3 + 2, none⟩ = some (.int .u16 (z3 : Nat))) :
  Calls prog 122 #[.agg (nA 6 0 0 0 0 p 0 0 M 0), .slice (some ⟨b, 0, none⟩) n cap] w fun e w' => e = .returned (.agg #[.int .u16 z1, .int .u16 0, .int .u16 z3]) ∧ Below w.heap.size w w' := by
 have qgy : b < w.heap.size := yc a0
 go_enter func122, ntmps122
 go_wp2
 refine bodyPost_ret (v := .agg #[.int .u16 z1, .int .u16 0, .int .u16 z3]) (by simp [results, results122, go_sem]) rfl ⟨rfl, ?_⟩
 refine Below.alloc (Below.alloc (Below.alloc (Below.refl _ _) ?_ _) ?_ _) ?_ _ <;> first | exact Nat.le_refl _ | (simp only [World.size_alloc]; omega)
theorem Gg (b n cap p z1 z2 z3 : Nat) (m M : Int) (hm : m ≠ 0) (hpn : p < n) (hn : n ≤ 120) (w : World) (a0 : w.cell? ⟨b, p * 3, none⟩ = some (.int .u16 (z1 : Nat))) (a1 : w.cell? ⟨b, p * 3 + 1, none⟩ = some (.int .u16 (z2 : Nat))) (a2 : w.cell? ⟨b, p * 3 + 2, none⟩ = some (.int .u16 (z3 : Nat))) :
  Calls prog 122 #[.agg (nA 6 0 0 0 0 p 0 m M 0), .slice (some ⟨b, 0, none⟩) n cap] w fun e w' => e = .returned (.agg #[.int .u16 z1, .int .u16 z2, .int .u16 z3]) ∧ Below w.heap.size w w' := by
 have qgy : b < w.heap.size := yc a0
 go_enter func122, ntmps122
 go_wp2
 refine bodyPost_ret (v := .agg #[.int .u16 z1, .int .u16 z2, .int .u16 z3]) (by simp [results, results122, go_sem]) rfl ⟨rfl, ?_⟩
 refine Below.alloc (Below.alloc (Below.alloc (Below.refl _ _) ?_ _) ?_ _) ?_ _ <;> first | exact Nat.le_refl _ | (simp only [World.size_alloc]; omega)
theorem Gh (b n cap p z1 z2 z3 y2 y3 N o : Nat) (hN : N < 10) (g1 : IntKind.u16.wrap (2 ^ N) = (o : Int)) (g2 : bits .or .u16 z2 o = (y2 : Int)) (g3 : bits .or .u16 z3 o = (y3 : Int)) (hpn : p < n) (hn : n ≤ 120) (w : World) (a0 : w.cell? ⟨b, p * 3, none⟩ = some (.int .u16 (z1 : Nat))) (a1 : w.cell? ⟨b, p * 3 + 1, none⟩ = some (.int .u16 (z2 : Nat))) (a2 : w.cell? ⟨b, p * 3 + 2, none⟩ = some (.int .u16 (z3 : Nat))) :
  Calls prog 122 #[.agg (nA 7 0 0 0 0 p 0 0 0 N), .slice (some ⟨b, 0, none⟩) n cap] w fun e w' => e = .returned (.agg #[.int .u16 z1, .int .u16 y2, .int .u16 y3]) ∧ Below w.heap.size w w' := by
 have qgy : b < w.heap.size := yc a0
 go_enter func122, ntmps122
 go_wp2
 go_region
 all_goals
  go_wp2
  refine bodyPost_ret (v := .agg #[.int .u16 z1, .int .u16 y2, .int .u16 y3]) (by simp [results, results122, go_sem]) rfl ⟨rfl, ?_⟩
  refine Below.drew (Below.alloc (Below.alloc (Below.alloc (Below.refl _ _) ?_ _) ?_ _) ?_ _) <;> first | exact Nat.le_refl _ | (simp only [World.size_alloc]; omega)
theorem qd6 (s : List UInt8) (l : Nat → Option Nd) (t : T) (i : Nat) (x : Nd) (ht : zT l t i) (hx : l i = some x) (b n cap : Nat) (hi : i < n) (hn : n ≤ 120) (w : World) (hR : ∀ (j : Nat) (u : T), j < i → zT l u j → Xm w b j (qd s u)) :
  Calls prog 122 #[Je x, .slice (some ⟨b, 0, none⟩) n cap] w fun e w' => e = .returned (K3 (qd s t)) ∧ Below w.heap.size w w' := by
 cases t with
 | leaf y =>
  have hy := ht.leaf
  rw [hx] at hy
  cases hy
  exact qby s x ht.1 b n cap w
 | two k ta tb =>
  obtain ⟨p, q, hl, sa, sb, hp, hq, hk⟩ := ht.two
  rw [hx] at hl
  cases hl
  obtain ⟨a0, a1, a2⟩ := hR p ta hp sa
  obtain ⟨b0, b1, b2⟩ := hR q tb hq sb
  rcases hk with rfl | rfl
  ·rw [show qd s (.two 4 ta tb) = jm s (qd s ta) (qd s tb) by rw [qd, if_pos rfl]]
   exact qd9 b n cap p q _ _ _ _ _ _ _ _ _ _ (by omega) (by omega) hn w a0 a1 a2 b0 b1 b2 (qi3 (qd s tb).asked (qd s ta).always) (J1 (qd s ta).asked (fun g => (qd s tb).asked g && !(qd s ta).always g)) (J1 _ _) (J1 _ _)
  ·rw [show qd s (.two 5 ta tb) = kP (qd s ta) (qd s tb) by rw [qd, if_neg (by decide)]]
   exact qea b n cap p q _ _ _ _ _ _ 0 _ _ _ (by omega) (by omega) hn w a0 a1 a2 b0 b1 b2 (J1 _ _) (qdM _ _) (J1 _ _)
 | times m M ta =>
  obtain ⟨p, hl, sa, hp, hc⟩ := ht.times
  rw [hx] at hl
  cases hl
  obtain ⟨a0, a1, a2⟩ := hR p ta hp sa
  by_cases hm : m = 0
  ·subst hm
   have h := WY b n cap p _ _ _ M (by omega) hn w a0 a1 a2
   have e : (gw (qd s (.times 0 M ta)).always : Int) = 0 := by
    have : gw (qd s (.times 0 M ta)).always = 0 := yi.2 (jg.2 fun g _ => rfl)
    rw [this]; rfl
   unfold K3
   rw [e]
   exact h
  ·have h := Gg b n cap p _ _ _ m M hm (by omega) hn w a0 a1 a2
   have e : gw (qd s (.times m M ta)).always = gw (qd s ta).always := Z7 fun g _ => if_neg hm
   unfold K3
   rw [e]
   exact h
 | group N ta =>
  obtain ⟨p, hl, sa, hp, h1, h2⟩ := ht.group
  rw [hx] at hl
  cases hl
  obtain ⟨a0, a1, a2⟩ := hR p ta hp sa
  obtain ⟨K, rfl⟩ := Int.eq_ofNat_of_zero_le (show 0 ≤ N by omega)
  have e : qd s (.group (K : Int) ta) = ke K (qd s ta) := by rw [qd, Int.toNat_natCast]
  rw [e]
  have e1 : gw (ke K (qd s ta)).always = gw (fun g => (qd s ta).always g || decide (K = g)) := Z7 fun g _ => by simp [ke, eq_comm]
  have e2 : gw (ke K (qd s ta)).ever = gw (fun g => (qd s ta).ever g || decide (K = g)) := Z7 fun g _ => by simp [ke, eq_comm]
  unfold K3
  rw [e1, e2]
  exact Gh b n cap p _ _ _ _ _ K _ (by omega) (qdO (by omega)) (J1 _ (fun g => decide (K = g))) (J1 _ (fun g => decide (K = g))) (by omega) hn w a0 a1 a2
end Go.Proofs.YtjgegohidhdbpaaGreatDoor
