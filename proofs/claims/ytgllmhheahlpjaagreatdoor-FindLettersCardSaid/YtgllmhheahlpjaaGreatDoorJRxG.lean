/- areNumbered: the closure that calls itself, by induction on the tree. -/
import Derived.Test.YtgllmhheahlpjaaGreatDoorJRxD
set_option linter.unusedVariables false
set_option linter.unusedSimpArgs false
set_option maxRecDepth 100000
set_option maxHeartbeats 40000000
namespace Go.Proofs.YtgllmhheahlpjaaGreatDoor
open Go.RowKit
def num : T → Nat × (Nat → Bool) → Option (Nat × (Nat → Bool))
 | .leaf x, s => if x.kind = 8 then (if s.2 x.n.toNat = true then some s else none) else some s
 | .two _ a b, s => (num a s).bind (num b)
 | .times _ _ t, s => num t s
 | .group n t, s => if n = (s.1 : Int) + 1 then (num t (s.1 + 1, s.2)).map fun u => (u.1, fun i => if i = n.toNat then true else u.2 i) else none
theorem num_le : ∀ (t : T) (s u : Nat × (Nat → Bool)), num t s = some u → u.1 ≤ s.1 + t.size
 | .leaf x, s, u, h => by
  simp only [num] at h
  split at h
  ·split at h
   ·cases h; simp [T.size]
   ·cases h
  ·cases h; simp [T.size]
 | .two k a b, s, u, h => by
  simp only [num, Option.bind_eq_some_iff] at h
  obtain ⟨v, h1, h2⟩ := h
  have e1 := num_le a s v h1
  have e2 := num_le b v u h2
  simp only [T.size]; omega
 | .times m M t, s, u, h => by
  have := num_le t s u h
  simp only [T.size]; omega
 | .group n t, s, u, h => by
  simp only [num] at h
  split at h
  ·simp only [Option.map_eq_some_iff] at h
   obtain ⟨v, h1, rfl⟩ := h
   have := num_le t _ v h1
   simp only [T.size] at *; omega
  ·cases h
def ten (f : Nat → Bool) : Array Value := #[.bool (f 0), .bool (f 1), .bool (f 2), .bool (f 3), .bool (f 4), .bool (f 5), .bool (f 6), .bool (f 7), .bool (f 8), .bool (f 9)]
structure Env (B b o n cap : Nat) (xs : List Nd) (g : Nat) (en : Nat → Bool) (w : World) : Prop where
 lt : b < B
 l : w.heap[B]? = some (.cells #[.slice (some ⟨b, o, none⟩) n cap] 22 (0, 0))
 g : w.heap[B + 1]? = some (.cells #[.int .i64 g] 3 (0, 0))
 en : w.heap[B + 2]? = some (.cells (ten en) 116 (0, 0))
 f : w.heap[B + 3]? = some (.cells #[.func (.func 89) #[] #[.pointer (some ⟨B, 0, none⟩), .pointer (some ⟨B + 3, 0, none⟩), .pointer (some ⟨B + 1, 0, none⟩), .pointer (some ⟨B + 2, 0, none⟩)]] 103 (0, 0))
 x : NodesAt w b o xs
structure Keep (B : Nat) (w w' : World) : Prop where
 bel : Below B w w'
 same : ∀ c, c < w.heap.size → c ≠ B + 1 → c ≠ B + 2 → w'.heap[c]? = w.heap[c]?
theorem Keep.trans {B : Nat} {a w w' : World} (h : Keep B a w) (h' : Keep B w w') : Keep B a w' :=
 ⟨h.bel.trans h'.bel, fun c hc h1 h2 => (h'.same c (Nat.lt_of_lt_of_le hc h.bel.size) h1 h2).trans (h.same c hc h1 h2)⟩
theorem Keep.alloc (B : Nat) (w : World) (hB : B ≤ w.heap.size) (ob : Obj) : Keep B w (w.alloc ob) :=
 ⟨(Below.refl _ w).alloc hB ob, fun c hc _ _ => by
  show (w.heap.push ob)[c]? = _
  rw [Array.getElem?_push_lt hc]; simp [hc]⟩
theorem Keep.setCell {B : Nat} {a w : World} (h : Keep B a w) (q j : Nat) (hq : q = B + 1 ∨ q = B + 2) (v : Value) : Keep B a (w.setCell ⟨q, j, none⟩ v) :=
 ⟨h.bel.setCell (p := ⟨q, j, none⟩) (by show B ≤ q; omega) v, fun c hc h1 h2 => (Below.heap_setCell w ⟨q, j, none⟩ v c (by show c ≠ q; omega)).trans (h.same c hc h1 h2)⟩
theorem NB.keep {B c : Nat} {w w' : World} {x : Nd} (h : NB w c x) (hk : Keep B w w') (h1 : c ≠ B + 1) (h2 : c ≠ B + 2) : NB w' c x :=
 ⟨(hk.same c h.lt h1 h2).trans h.heap⟩
def Post (B b o n cap : Nat) (xs : List Nd) (w : World) : Option (Nat × (Nat → Bool)) → Ending → World → Prop
 | some s, e, w' => (e = .returned (.bool true) ∧ Env B b o n cap xs s.1 s.2 w') ∧ Keep B w w'
 | none, e, w' => e = .returned (.bool false) ∧ Keep B w w'
section
variable {B b o n cap : Nat} {xs : List Nd} {g : Nat} {en : Nat → Bool} {w : World}
theorem Env.size (h : Env B b o n cap xs g en w) : B + 4 ≤ w.heap.size := (Array.getElem?_eq_some_iff.1 h.f).1
theorem Env.alloc (h : Env B b o n cap xs g en w) (ob : Obj) : Env B b o n cap xs g en (w.alloc ob) := by
 have hs := h.size
 have k : ∀ (j : Nat), j < w.heap.size → (w.alloc ob).heap[j]? = w.heap[j]? := fun j hj => by
  show (w.heap.push ob)[j]? = _
  rw [Array.getElem?_push_lt hj]; simp [hj]
 have hB : Below w.heap.size w (w.alloc ob) := (Below.refl _ w).alloc (Nat.le_refl _) ob
 exact ⟨h.lt, (k _ (by omega)).trans h.l, (k _ (by omega)).trans h.g, (k _ (by omega)).trans h.en, (k _ (by omega)).trans h.f, h.x.below hB h.x.lt⟩
theorem Env.cl (h : Env B b o n cap xs g en w) : w.cell? ⟨B, 0, none⟩ = some (.slice (some ⟨b, o, none⟩) n cap) := by simp [World.cell?, h.l]
theorem Env.cg (h : Env B b o n cap xs g en w) : w.cell? ⟨B + 1, 0, none⟩ = some (.int .i64 g) := by simp [World.cell?, h.g]
theorem Env.zg (h : Env B b o n cap xs g en w) : w.frozen? ⟨B + 1, 0, none⟩ = false := by simp [World.frozen?, h.g]
theorem Env.cf (h : Env B b o n cap xs g en w) : w.cell? ⟨B + 3, 0, none⟩ = some (.func (.func 89) #[] #[.pointer (some ⟨B, 0, none⟩), .pointer (some ⟨B + 3, 0, none⟩), .pointer (some ⟨B + 1, 0, none⟩), .pointer (some ⟨B + 2, 0, none⟩)]) := by simp [World.cell?, h.f]
theorem Env.ce (h : Env B b o n cap xs g en w) (j : Nat) (hj : j < 10) : w.cell? ⟨B + 2, j, none⟩ = some (.bool (en j)) := by
 simp only [World.cell?, h.en]
 rcases (by omega : j = 0 ∨ j = 1 ∨ j = 2 ∨ j = 3 ∨ j = 4 ∨ j = 5 ∨ j = 6 ∨ j = 7 ∨ j = 8 ∨ j = 9) with rfl | rfl | rfl | rfl | rfl | rfl | rfl | rfl | rfl | rfl <;> rfl
theorem Env.ze (h : Env B b o n cap xs g en w) (j : Nat) : w.frozen? ⟨B + 2, j, none⟩ = false := by simp [World.frozen?, h.en]
theorem set_other (w : World) (b j : Nat) (v : Value) (c : Nat) (h : c ≠ b) : (w.setCell ⟨b, j, none⟩ v).heap[c]? = w.heap[c]? := Below.heap_setCell w ⟨b, j, none⟩ v c h
theorem Env.setg (h : Env B b o n cap xs g en w) (g' : Nat) (v : Int) (hv : v = g') : Env B b o n cap xs g' en (w.setCell ⟨B + 1, 0, none⟩ (.int .i64 v)) := by
 subst hv
 have hB : Below B w (w.setCell ⟨B + 1, 0, none⟩ (.int .i64 g')) := (Below.refl _ w).setCell (p := ⟨B + 1, 0, none⟩) (by simp) _
 refine ⟨h.lt, (set_other _ _ _ _ _ (by omega)).trans h.l, ?_, (set_other _ _ _ _ _ (by omega)).trans h.en, (set_other _ _ _ _ _ (by omega)).trans h.f, h.x.below hB h.lt⟩
 rw [heap_setCell_same _ _ _ _ _ _ h.g]; rfl
theorem Env.sete (h : Env B b o n cap xs g en w) (j : Nat) (hj : j < 10) : Env B b o n cap xs g (fun i => if i = j then true else en i) (w.setCell ⟨B + 2, j, none⟩ (.bool true)) := by
 have hB : Below B w (w.setCell ⟨B + 2, j, none⟩ (.bool true)) := (Below.refl _ w).setCell (p := ⟨B + 2, j, none⟩) (by simp) _
 refine ⟨h.lt, (set_other _ _ _ _ _ (by omega)).trans h.l, (set_other _ _ _ _ _ (by omega)).trans h.g, ?_, (set_other _ _ _ _ _ (by omega)).trans h.f, h.x.below hB h.lt⟩
 rw [heap_setCell_same _ _ _ _ _ _ h.en]
 rcases (by omega : j = 0 ∨ j = 1 ∨ j = 2 ∨ j = 3 ∨ j = 4 ∨ j = 5 ∨ j = 6 ∨ j = 7 ∨ j = 8 ∨ j = 9) with rfl | rfl | rfl | rfl | rfl | rfl | rfl | rfl | rfl | rfl <;> rfl
end
end Go.Proofs.YtgllmhheahlpjaaGreatDoor
namespace Go.Proofs.YtgllmhheahlpjaaGreatDoor
open Go.RowKit
theorem isNd_ref {x : Nd} (h : isNd x = true) (hk : x.kind = 8) : isNum x.n = true ∧ x = ⟨8, 0, 0, 0, 0, 0, 0, 0, 0, x.n⟩ := by
 unfold isNd at h
 rw [if_neg (by omega), if_neg (by omega), if_neg (by omega), if_neg (by omega), if_neg (by omega), if_pos hk, Bool.and_eq_true] at h
 exact ⟨h.1, of_decide_eq_true h.2⟩
theorem num_of {n : Int} (h : isNum n = true) : 1 ≤ n ∧ n ≤ 9 := of_decide_eq_true h
def Tells (B b o0 n cap : Nat) (xs : List Nd) (t : T) : Prop := ∀ (o k g : Nat) (en : Nat → Bool) (w : World), T.At (fun i => xs[i]?) t o → o + t.size = k + 1 → k < n → g + t.size ≤ 1000 → Env B b o0 n cap xs g en w →
 Calls Tryz.prog 89 #[.int .i64 (k : Int), .pointer (some ⟨B, 0, none⟩), .pointer (some ⟨B + 3, 0, none⟩), .pointer (some ⟨B + 1, 0, none⟩), .pointer (some ⟨B + 2, 0, none⟩)] w fun e w' => Post B b o0 n cap xs w (num t (g, en)) e w'
theorem tells_leaf (B b o0 n cap : Nat) (xs : List Nd) (hlen : xs.length = n) (hn : n ≤ 120) (kd : Int) (w0 w1 w2 w3 : Nat) (xa xb m M xn : Int) (ho : T.Ok (.leaf ⟨kd, w0, w1, w2, w3, xa, xb, m, M, xn⟩)) : Tells B b o0 n cap xs (T.leaf ⟨kd, w0, w1, w2, w3, xa, xb, m, M, xn⟩) := by
 intro o k g en w ha he hk hg hw
 have hr := ha.root
 rw [show o + (T.leaf ⟨kd, w0, w1, w2, w3, xa, xb, m, M, xn⟩).size - 1 = k by omega] at hr
 have ha1 := Lib.hid ha
 clear ha
 simp only [T.root] at hr
 have lw := hw.size
 have lb := hw.lt
 have cl := hw.cl; have cg := hw.cg; have zg := hw.zg; have cf := hw.cf
 have hcell := hw.x.cell k _ hr
 have d0 : w.cell? ⟨b, o0 + k * 10, none⟩ = some (.int .i64 kd) := hcell 0 _ rfl
 have d1 : w.cell? ⟨b, o0 + k * 10 + 1, none⟩ = some (.int .u64 w0) := hcell 1 _ rfl
 have d2 : w.cell? ⟨b, o0 + k * 10 + 2, none⟩ = some (.int .u64 w1) := hcell 2 _ rfl
 have d3 : w.cell? ⟨b, o0 + k * 10 + 3, none⟩ = some (.int .u64 w2) := hcell 3 _ rfl
 have d4 : w.cell? ⟨b, o0 + k * 10 + 4, none⟩ = some (.int .u64 w3) := hcell 4 _ rfl
 have d5 : w.cell? ⟨b, o0 + k * 10 + 5, none⟩ = some (.int .i64 xa) := hcell 5 _ rfl
 have d6 : w.cell? ⟨b, o0 + k * 10 + 6, none⟩ = some (.int .i64 xb) := hcell 6 _ rfl
 have d7 : w.cell? ⟨b, o0 + k * 10 + 7, none⟩ = some (.int .i64 m) := hcell 7 _ rfl
 have d8 : w.cell? ⟨b, o0 + k * 10 + 8, none⟩ = some (.int .i64 M) := hcell 8 _ rfl
 have d9 : w.cell? ⟨b, o0 + k * 10 + 9, none⟩ = some (.int .i64 xn) := hcell 9 _ rfl
 clear hcell
 obtain ⟨hnd, hkd⟩ := ho
 simp only at hkd
 have bA : ∀ ob, Keep B w (w.alloc ob) := fun ob => Keep.alloc B w (by omega) ob
 rcases hkd with rfl | rfl | rfl | rfl | rfl
 ·simp only [num, if_neg (by decide : ¬ ((0 : Int) = 8)), Post]
  have ev := hw.alloc (.cells #[.int .i64 0, .int .u64 w0, .int .u64 w1, .int .u64 w2, .int .u64 w3, .int .i64 xa, .int .i64 xb, .int .i64 m, .int .i64 M, .int .i64 xn] 60)
  have EV := Lib.hid ev
  clear ev
  go_enter Tryz.func89, Tryz.ntmps89
  go_wp2
  go_ret
  exact ⟨⟨rfl, EV.out⟩, bA _⟩
 ·simp only [num, if_neg (by decide : ¬ ((1 : Int) = 8)), Post]
  have ev := hw.alloc (.cells #[.int .i64 1, .int .u64 w0, .int .u64 w1, .int .u64 w2, .int .u64 w3, .int .i64 xa, .int .i64 xb, .int .i64 m, .int .i64 M, .int .i64 xn] 60)
  have EV := Lib.hid ev
  clear ev
  go_enter Tryz.func89, Tryz.ntmps89
  go_wp2
  go_ret
  exact ⟨⟨rfl, EV.out⟩, bA _⟩
 ·simp only [num, if_neg (by decide : ¬ ((2 : Int) = 8)), Post]
  have ev := hw.alloc (.cells #[.int .i64 2, .int .u64 w0, .int .u64 w1, .int .u64 w2, .int .u64 w3, .int .i64 xa, .int .i64 xb, .int .i64 m, .int .i64 M, .int .i64 xn] 60)
  have EV := Lib.hid ev
  clear ev
  go_enter Tryz.func89, Tryz.ntmps89
  go_wp2
  go_ret
  exact ⟨⟨rfl, EV.out⟩, bA _⟩
 ·simp only [num, if_neg (by decide : ¬ ((3 : Int) = 8)), Post]
  have ev := hw.alloc (.cells #[.int .i64 3, .int .u64 w0, .int .u64 w1, .int .u64 w2, .int .u64 w3, .int .i64 xa, .int .i64 xb, .int .i64 m, .int .i64 M, .int .i64 xn] 60)
  have EV := Lib.hid ev
  clear ev
  go_enter Tryz.func89, Tryz.ntmps89
  go_wp2
  go_ret
  exact ⟨⟨rfl, EV.out⟩, bA _⟩
 ·have hxn : 1 ≤ xn ∧ xn ≤ 9 := num_of (isNd_ref hnd rfl).1
  obtain ⟨q, rfl⟩ : ∃ q : Nat, xn = q := ⟨xn.toNat, by omega⟩
  have hq : q < 10 := by omega
  have ce := cell_alloc1 (.cells #[.int .i64 8, .int .u64 w0, .int .u64 w1, .int .u64 w2, .int .u64 w3, .int .i64 xa, .int .i64 xb, .int .i64 m, .int .i64 M, .int .i64 q] 60) (hw.ce q hq)
  have ev := hw.alloc (.cells #[.int .i64 8, .int .u64 w0, .int .u64 w1, .int .u64 w2, .int .u64 w3, .int .i64 xa, .int .i64 xb, .int .i64 m, .int .i64 M, .int .i64 q] 60)
  have EV := Lib.hid ev
  clear ev hnd
  cases hv : en q
  ·have hp : num (.leaf ⟨8, w0, w1, w2, w3, xa, xb, m, M, q⟩) (g, en) = none := by simp [num, hv]
   rw [hp]
   simp only [Post]
   rw [hv] at ce
   clear hp hv
   go_enter Tryz.func89, Tryz.ntmps89
   go_wp2
   go_ret
   exact ⟨rfl, bA _⟩
  ·have hp : num (.leaf ⟨8, w0, w1, w2, w3, xa, xb, m, M, q⟩) (g, en) = some (g, en) := by simp [num, hv]
   rw [hp]
   simp only [Post]
   rw [hv] at ce
   clear hp hv
   go_enter Tryz.func89, Tryz.ntmps89
   go_wp2
   go_ret
   exact ⟨⟨rfl, EV.out⟩, bA _⟩
theorem tells_times (B b o0 n cap : Nat) (xs : List Nd) (hlen : xs.length = n) (hn : n ≤ 120) (m M : Int) (t : T) (ih : Tells B b o0 n cap xs t) : Tells B b o0 n cap xs (T.times m M t) := by
 intro o k g en w ha he hk hg hw
 have hr := ha.root
 rw [show o + (T.times m M t).size - 1 = k by omega] at hr
 have ha1 := Lib.hid ha
 clear ha
 simp only [T.root] at hr
 have lw := hw.size
 have lb := hw.lt
 have cl := hw.cl; have cg := hw.cg; have zg := hw.zg; have cf := hw.cf
 have hcell := hw.x.cell k _ hr
 simp only [T.size] at he hg
 obtain ⟨p, rfl⟩ : ∃ p, k = p + 1 := ⟨k - 1, by have := t.size_pos; omega⟩
 have ea : (o : Int) + t.size - 1 = (p : Int) := by omega
 rw [ea] at hcell
 have d0 : w.cell? ⟨b, o0 + (p + 1) * 10, none⟩ = some (.int .i64 6) := hcell 0 _ rfl
 have d1 : w.cell? ⟨b, o0 + (p + 1) * 10 + 1, none⟩ = some (.int .u64 0) := hcell 1 _ rfl
 have d2 : w.cell? ⟨b, o0 + (p + 1) * 10 + 2, none⟩ = some (.int .u64 0) := hcell 2 _ rfl
 have d3 : w.cell? ⟨b, o0 + (p + 1) * 10 + 3, none⟩ = some (.int .u64 0) := hcell 3 _ rfl
 have d4 : w.cell? ⟨b, o0 + (p + 1) * 10 + 4, none⟩ = some (.int .u64 0) := hcell 4 _ rfl
 have d5 : w.cell? ⟨b, o0 + (p + 1) * 10 + 5, none⟩ = some (.int .i64 p) := hcell 5 _ rfl
 have d6 : w.cell? ⟨b, o0 + (p + 1) * 10 + 6, none⟩ = some (.int .i64 0) := hcell 6 _ rfl
 have d7 : w.cell? ⟨b, o0 + (p + 1) * 10 + 7, none⟩ = some (.int .i64 m) := hcell 7 _ rfl
 have d8 : w.cell? ⟨b, o0 + (p + 1) * 10 + 8, none⟩ = some (.int .i64 M) := hcell 8 _ rfl
 have d9 : w.cell? ⟨b, o0 + (p + 1) * 10 + 9, none⟩ = some (.int .i64 0) := hcell 9 _ rfl
 clear hcell
 have bA : ∀ ob, Keep B w (w.alloc ob) := fun ob => Keep.alloc B w (by omega) ob
 have ev := hw.alloc (.cells #[.int .i64 6, .int .u64 0, .int .u64 0, .int .u64 0, .int .u64 0, .int .i64 p, .int .i64 0, .int .i64 m, .int .i64 M, .int .i64 0] 60)
 have cf1 := ev.cf
 have IH := ih o p g en _ ha1.out.1 (by omega) (by omega) (by omega) ev
 clear ih ha1 hr ev
 have hp : num (T.times m M t) (g, en) = num t (g, en) := rfl
 rw [hp]
 clear hp
 generalize num t (g, en) = u at *
 have b1 := bA (.cells #[.int .i64 6, .int .u64 0, .int .u64 0, .int .u64 0, .int .u64 0, .int .i64 p, .int .i64 0, .int .i64 m, .int .i64 M, .int .i64 0] 60)
 cases u with
 | none =>
  simp only [Post] at IH ⊢
  have IH := Lib.hid IH
  go_enter Tryz.func89, Tryz.ntmps89
  go_wp2_with (go_at_call 89; refine IH.out.mono ?_; rintro e w1 ⟨rfl, hB⟩)
  go_ret
  exact ⟨rfl, b1.trans hB⟩
 | some s =>
  simp only [Post] at IH ⊢
  have IH := Lib.hid IH
  go_enter Tryz.func89, Tryz.ntmps89
  go_wp2_with (go_at_call 89; refine IH.out.mono ?_; rintro e w1 ⟨⟨rfl, hE⟩, hB⟩)
  go_ret
  exact ⟨⟨rfl, hE⟩, b1.trans hB⟩
theorem tells_two4 (B b o0 n cap : Nat) (xs : List Nd) (hlen : xs.length = n) (hn : n ≤ 120) (s t : T) (is : Tells B b o0 n cap xs s) (it : Tells B b o0 n cap xs t) : Tells B b o0 n cap xs (T.two 4 s t) := by
 intro o k g en w ha he hk hg hw
 have hr := ha.root
 rw [show o + (T.two 4 s t).size - 1 = k by omega] at hr
 have ha1 := Lib.hid ha
 clear ha
 simp only [T.root] at hr
 have lw := hw.size
 have lb := hw.lt
 have cl := hw.cl; have cg := hw.cg; have zg := hw.zg; have cf := hw.cf
 have hcell := hw.x.cell k _ hr
 simp only [T.size] at he hg
 have sp := s.size_pos
 have tp := t.size_pos
 obtain ⟨q, rfl⟩ : ∃ q, k = q + 1 := ⟨k - 1, by omega⟩
 obtain ⟨p, hp⟩ : ∃ p, o + s.size = p + 1 := ⟨o + s.size - 1, by omega⟩
 have ea : (o : Int) + s.size - 1 = (p : Int) := by omega
 have eb : (o : Int) + s.size + t.size - 1 = (q : Int) := by omega
 rw [ea, eb] at hcell
 have d0 : w.cell? ⟨b, o0 + (q + 1) * 10, none⟩ = some (.int .i64 4) := hcell 0 _ rfl
 have d1 : w.cell? ⟨b, o0 + (q + 1) * 10 + 1, none⟩ = some (.int .u64 0) := hcell 1 _ rfl
 have d2 : w.cell? ⟨b, o0 + (q + 1) * 10 + 2, none⟩ = some (.int .u64 0) := hcell 2 _ rfl
 have d3 : w.cell? ⟨b, o0 + (q + 1) * 10 + 3, none⟩ = some (.int .u64 0) := hcell 3 _ rfl
 have d4 : w.cell? ⟨b, o0 + (q + 1) * 10 + 4, none⟩ = some (.int .u64 0) := hcell 4 _ rfl
 have d5 : w.cell? ⟨b, o0 + (q + 1) * 10 + 5, none⟩ = some (.int .i64 p) := hcell 5 _ rfl
 have d6 : w.cell? ⟨b, o0 + (q + 1) * 10 + 6, none⟩ = some (.int .i64 q) := hcell 6 _ rfl
 have d7 : w.cell? ⟨b, o0 + (q + 1) * 10 + 7, none⟩ = some (.int .i64 0) := hcell 7 _ rfl
 have d8 : w.cell? ⟨b, o0 + (q + 1) * 10 + 8, none⟩ = some (.int .i64 0) := hcell 8 _ rfl
 have d9 : w.cell? ⟨b, o0 + (q + 1) * 10 + 9, none⟩ = some (.int .i64 0) := hcell 9 _ rfl
 clear hcell
 have bA : ∀ ob, Keep B w (w.alloc ob) := fun ob => Keep.alloc B w (by omega) ob
 have ev := hw.alloc (.cells #[.int .i64 4, .int .u64 0, .int .u64 0, .int .u64 0, .int .u64 0, .int .i64 p, .int .i64 q, .int .i64 0, .int .i64 0, .int .i64 0] 60)
 have cf1 := ev.cf
 have xl := w.heap.size
 have X1 := NB.new w ⟨4, 0, 0, 0, 0, p, q, 0, 0, 0⟩
 have IH := is o p g en _ ha1.out.1 (by omega) (by omega) (by omega) ev
 have b1 := bA (.cells #[.int .i64 4, .int .u64 0, .int .u64 0, .int .u64 0, .int .u64 0, .int .i64 p, .int .i64 q, .int .i64 0, .int .i64 0, .int .i64 0] 60)
 have hnum : num (T.two 4 s t) (g, en) = (num s (g, en)).bind (num t) := rfl
 rw [hnum]
 clear hnum
 have hle := num_le s (g, en)
 generalize num s (g, en) = u at *
 cases u with
 | none =>
  simp only [Post, Option.bind_none] at IH ⊢
  have IH := Lib.hid IH
  clear is it ha1 hr ev hle
  go_enter Tryz.func89, Tryz.ntmps89
  go_wp2_with (go_at_call 89; refine IH.out.mono ?_; rintro e w1 ⟨rfl, hB⟩)
  go_ret
  exact ⟨rfl, b1.trans hB⟩
 | some v =>
  obtain ⟨g1, en1⟩ := v
  have hg1 := hle _ rfl
  simp only at hg1
  simp only [Post, Option.bind_some] at IH ⊢
  have IH := Lib.hid IH
  have IT := Lib.hid fun w1 (hE : Env B b o0 n cap xs g1 en1 w1) => it (o + s.size) q g1 en1 w1 ha1.out.2.1 (by omega) (by omega) (by omega) hE
  clear is it ha1 hr ev hle
  generalize hu2 : num t (g1, en1) = u2 at *
  go_enter Tryz.func89, Tryz.ntmps89
  go_wp2_with fail
  refine IH.out.mono ?_
  rintro e w1 ⟨⟨rfl, hE⟩, hB⟩
  have b2 := b1.trans hB
  have X2 := X1.keep hB (by omega) (by omega)
  have c6 : w1.cell? ⟨w.heap.size, 6, none⟩ = some (.int .i64 q) := X2.c 6
  have cf2 := hE.cf
  have I2 := IT.out w1 hE
  clear IT IH X1 X2 hB
  cases u2 with
  | none =>
   simp only [Post] at I2 ⊢
   have I2 := Lib.hid I2
   go_wp2_with (go_at_call 89; refine I2.out.mono ?_; rintro e w2 ⟨rfl, hB⟩)
   go_ret
   exact ⟨rfl, b2.trans hB⟩
  | some v2 =>
   simp only [Post] at I2 ⊢
   have I2 := Lib.hid I2
   go_wp2_with (go_at_call 89; refine I2.out.mono ?_; rintro e w2 ⟨⟨rfl, hE2⟩, hB⟩)
   go_ret
   exact ⟨⟨rfl, hE2⟩, b2.trans hB⟩
theorem tells_two5 (B b o0 n cap : Nat) (xs : List Nd) (hlen : xs.length = n) (hn : n ≤ 120) (s t : T) (is : Tells B b o0 n cap xs s) (it : Tells B b o0 n cap xs t) : Tells B b o0 n cap xs (T.two 5 s t) := by
 intro o k g en w ha he hk hg hw
 have hr := ha.root
 rw [show o + (T.two 5 s t).size - 1 = k by omega] at hr
 have ha1 := Lib.hid ha
 clear ha
 simp only [T.root] at hr
 have lw := hw.size
 have lb := hw.lt
 have cl := hw.cl; have cg := hw.cg; have zg := hw.zg; have cf := hw.cf
 have hcell := hw.x.cell k _ hr
 simp only [T.size] at he hg
 have sp := s.size_pos
 have tp := t.size_pos
 obtain ⟨q, rfl⟩ : ∃ q, k = q + 1 := ⟨k - 1, by omega⟩
 obtain ⟨p, hp⟩ : ∃ p, o + s.size = p + 1 := ⟨o + s.size - 1, by omega⟩
 have ea : (o : Int) + s.size - 1 = (p : Int) := by omega
 have eb : (o : Int) + s.size + t.size - 1 = (q : Int) := by omega
 rw [ea, eb] at hcell
 have d0 : w.cell? ⟨b, o0 + (q + 1) * 10, none⟩ = some (.int .i64 5) := hcell 0 _ rfl
 have d1 : w.cell? ⟨b, o0 + (q + 1) * 10 + 1, none⟩ = some (.int .u64 0) := hcell 1 _ rfl
 have d2 : w.cell? ⟨b, o0 + (q + 1) * 10 + 2, none⟩ = some (.int .u64 0) := hcell 2 _ rfl
 have d3 : w.cell? ⟨b, o0 + (q + 1) * 10 + 3, none⟩ = some (.int .u64 0) := hcell 3 _ rfl
 have d4 : w.cell? ⟨b, o0 + (q + 1) * 10 + 4, none⟩ = some (.int .u64 0) := hcell 4 _ rfl
 have d5 : w.cell? ⟨b, o0 + (q + 1) * 10 + 5, none⟩ = some (.int .i64 p) := hcell 5 _ rfl
 have d6 : w.cell? ⟨b, o0 + (q + 1) * 10 + 6, none⟩ = some (.int .i64 q) := hcell 6 _ rfl
 have d7 : w.cell? ⟨b, o0 + (q + 1) * 10 + 7, none⟩ = some (.int .i64 0) := hcell 7 _ rfl
 have d8 : w.cell? ⟨b, o0 + (q + 1) * 10 + 8, none⟩ = some (.int .i64 0) := hcell 8 _ rfl
 have d9 : w.cell? ⟨b, o0 + (q + 1) * 10 + 9, none⟩ = some (.int .i64 0) := hcell 9 _ rfl
 clear hcell
 have bA : ∀ ob, Keep B w (w.alloc ob) := fun ob => Keep.alloc B w (by omega) ob
 have ev := hw.alloc (.cells #[.int .i64 5, .int .u64 0, .int .u64 0, .int .u64 0, .int .u64 0, .int .i64 p, .int .i64 q, .int .i64 0, .int .i64 0, .int .i64 0] 60)
 have cf1 := ev.cf
 have xl := w.heap.size
 have X1 := NB.new w ⟨5, 0, 0, 0, 0, p, q, 0, 0, 0⟩
 have IH := is o p g en _ ha1.out.1 (by omega) (by omega) (by omega) ev
 have b1 := bA (.cells #[.int .i64 5, .int .u64 0, .int .u64 0, .int .u64 0, .int .u64 0, .int .i64 p, .int .i64 q, .int .i64 0, .int .i64 0, .int .i64 0] 60)
 have hnum : num (T.two 5 s t) (g, en) = (num s (g, en)).bind (num t) := rfl
 rw [hnum]
 clear hnum
 have hle := num_le s (g, en)
 generalize num s (g, en) = u at *
 cases u with
 | none =>
  simp only [Post, Option.bind_none] at IH ⊢
  have IH := Lib.hid IH
  clear is it ha1 hr ev hle
  go_enter Tryz.func89, Tryz.ntmps89
  go_wp2_with (go_at_call 89; refine IH.out.mono ?_; rintro e w1 ⟨rfl, hB⟩)
  go_ret
  exact ⟨rfl, b1.trans hB⟩
 | some v =>
  obtain ⟨g1, en1⟩ := v
  have hg1 := hle _ rfl
  simp only at hg1
  simp only [Post, Option.bind_some] at IH ⊢
  have IH := Lib.hid IH
  have IT := Lib.hid fun w1 (hE : Env B b o0 n cap xs g1 en1 w1) => it (o + s.size) q g1 en1 w1 ha1.out.2.1 (by omega) (by omega) (by omega) hE
  clear is it ha1 hr ev hle
  generalize hu2 : num t (g1, en1) = u2 at *
  go_enter Tryz.func89, Tryz.ntmps89
  go_wp2_with fail
  refine IH.out.mono ?_
  rintro e w1 ⟨⟨rfl, hE⟩, hB⟩
  have b2 := b1.trans hB
  have X2 := X1.keep hB (by omega) (by omega)
  have c6 : w1.cell? ⟨w.heap.size, 6, none⟩ = some (.int .i64 q) := X2.c 6
  have cf2 := hE.cf
  have I2 := IT.out w1 hE
  clear IT IH X1 X2 hB
  cases u2 with
  | none =>
   simp only [Post] at I2 ⊢
   have I2 := Lib.hid I2
   go_wp2_with (go_at_call 89; refine I2.out.mono ?_; rintro e w2 ⟨rfl, hB⟩)
   go_ret
   exact ⟨rfl, b2.trans hB⟩
  | some v2 =>
   simp only [Post] at I2 ⊢
   have I2 := Lib.hid I2
   go_wp2_with (go_at_call 89; refine I2.out.mono ?_; rintro e w2 ⟨⟨rfl, hE2⟩, hB⟩)
   go_ret
   exact ⟨⟨rfl, hE2⟩, b2.trans hB⟩
end Go.Proofs.YtgllmhheahlpjaaGreatDoor
namespace Go.Proofs.YtgllmhheahlpjaaGreatDoor
open Go.RowKit
theorem tells_group (B b o0 n cap : Nat) (xs : List Nd) (hlen : xs.length = n) (hn : n ≤ 120) (nn : Int) (hN : isNum nn = true) (t : T) (ih : Tells B b o0 n cap xs t) : Tells B b o0 n cap xs (T.group nn t) := by
 intro o k g en w ha he hk hg hw
 have hr := ha.root
 rw [show o + (T.group nn t).size - 1 = k by omega] at hr
 have ha1 := Lib.hid ha
 clear ha
 simp only [T.root] at hr
 have lw := hw.size
 have lb := hw.lt
 have cl := hw.cl; have cg := hw.cg; have zg := hw.zg; have cf := hw.cf
 have hcell := hw.x.cell k _ hr
 have hN := num_of hN
 simp only [T.size] at he hg
 have tp := t.size_pos
 obtain ⟨p, rfl⟩ : ∃ p, k = p + 1 := ⟨k - 1, by omega⟩
 have ea : (o : Int) + t.size - 1 = (p : Int) := by omega
 rw [ea] at hcell
 have IT := Lib.hid fun w1 (hE : Env B b o0 n cap xs (g + 1) en w1) => ih o p (g + 1) en w1 ha1.out.1 (by omega) (by omega) (by omega) hE
 have d0 : w.cell? ⟨b, o0 + (p + 1) * 10, none⟩ = some (.int .i64 7) := hcell 0 _ rfl
 have d1 : w.cell? ⟨b, o0 + (p + 1) * 10 + 1, none⟩ = some (.int .u64 0) := hcell 1 _ rfl
 have d2 : w.cell? ⟨b, o0 + (p + 1) * 10 + 2, none⟩ = some (.int .u64 0) := hcell 2 _ rfl
 have d3 : w.cell? ⟨b, o0 + (p + 1) * 10 + 3, none⟩ = some (.int .u64 0) := hcell 3 _ rfl
 have d4 : w.cell? ⟨b, o0 + (p + 1) * 10 + 4, none⟩ = some (.int .u64 0) := hcell 4 _ rfl
 have d5 : w.cell? ⟨b, o0 + (p + 1) * 10 + 5, none⟩ = some (.int .i64 p) := hcell 5 _ rfl
 have d6 : w.cell? ⟨b, o0 + (p + 1) * 10 + 6, none⟩ = some (.int .i64 0) := hcell 6 _ rfl
 have d7 : w.cell? ⟨b, o0 + (p + 1) * 10 + 7, none⟩ = some (.int .i64 0) := hcell 7 _ rfl
 have d8 : w.cell? ⟨b, o0 + (p + 1) * 10 + 8, none⟩ = some (.int .i64 0) := hcell 8 _ rfl
 have d9 : w.cell? ⟨b, o0 + (p + 1) * 10 + 9, none⟩ = some (.int .i64 nn) := hcell 9 _ rfl
 clear hcell ih ha1 hr
 have kB : Keep B w ((w.alloc (.cells #[.int .i64 7, .int .u64 0, .int .u64 0, .int .u64 0, .int .u64 0, .int .i64 p, .int .i64 0, .int .i64 0, .int .i64 0, .int .i64 nn] 60)).setCell ⟨B + 1, 0, none⟩ (.int .i64 ((g : Int) + 1))) := (Keep.alloc B w (by omega) (.cells #[.int .i64 7, .int .u64 0, .int .u64 0, .int .u64 0, .int .u64 0, .int .i64 p, .int .i64 0, .int .i64 0, .int .i64 0, .int .i64 nn] 60)).setCell (B + 1) 0 (.inl rfl) _
 have cg1 := (hw.alloc (.cells #[.int .i64 7, .int .u64 0, .int .u64 0, .int .u64 0, .int .u64 0, .int .i64 p, .int .i64 0, .int .i64 0, .int .i64 0, .int .i64 nn] 60)).cg; have zg1 := (hw.alloc (.cells #[.int .i64 7, .int .u64 0, .int .u64 0, .int .u64 0, .int .u64 0, .int .i64 p, .int .i64 0, .int .i64 0, .int .i64 0, .int .i64 nn] 60)).zg
 by_cases e : nn = (g : Int) + 1
 ·subst e
  have z0 : ((g : Int) + 1 != (g : Int) + 1) = false := by simp
  have hj : ((g : Int) + 1).toNat = g + 1 := by omega
  have hnum : num (T.group ((g : Int) + 1) t) (g, en) = (num t (g + 1, en)).map fun u => (u.1, fun i => if i = g + 1 then true else u.2 i) := by simp only [num, if_true, hj]
  rw [hnum]
  clear hnum
  generalize hu : num t (g + 1, en) = u at *
  have hE1 := (hw.alloc (.cells #[.int .i64 7, .int .u64 0, .int .u64 0, .int .u64 0, .int .u64 0, .int .i64 p, .int .i64 0, .int .i64 0, .int .i64 0, .int .i64 ((g : Int) + 1)] 60)).setg (g + 1) ((g : Int) + 1) (by omega)
  have X1 : NB ((w.alloc (.cells #[.int .i64 7, .int .u64 0, .int .u64 0, .int .u64 0, .int .u64 0, .int .i64 p, .int .i64 0, .int .i64 0, .int .i64 0, .int .i64 ((g : Int) + 1)] 60)).setCell ⟨B + 1, 0, none⟩ (.int .i64 ((g : Int) + 1))) w.heap.size ⟨7, 0, 0, 0, 0, p, 0, 0, 0, (g : Int) + 1⟩ := ⟨(set_other _ _ _ _ _ (by omega)).trans (NB.new w ⟨7, 0, 0, 0, 0, p, 0, 0, 0, (g : Int) + 1⟩).heap⟩
  have I1 := IT.out _ hE1
  have cfe := hE1.cf; have cge := hE1.cg
  have x5 : _ = some (Value.int .i64 p) := X1.c 5
  clear IT
  cases u with
  | none =>
   simp only [Post, Option.map_none] at I1 ⊢
   have I1 := Lib.hid I1
   go_enter Tryz.func89, Tryz.ntmps89
   go_wp2_with (go_at_call 89; refine I1.out.mono ?_; rintro e w1 ⟨rfl, hB⟩)
   go_ret
   exact ⟨rfl, kB.trans hB⟩
  | some v =>
   obtain ⟨g2, en2⟩ := v
   simp only [Post, Option.map_some] at I1 ⊢
   have I1 := Lib.hid I1
   have KB := Lib.hid kB
   clear kB
   go_enter Tryz.func89, Tryz.ntmps89
   go_wp2_with fail
   refine I1.out.mono ?_
   rintro e w1 ⟨⟨rfl, hE⟩, hB⟩
   have X2 := X1.keep hB (by omega) (by omega)
   have c9 : w1.cell? ⟨w.heap.size, 9, none⟩ = some (.int .i64 ((g : Int) + 1)) := X2.c 9
   have ce := hE.ce (g + 1) (by omega)
   have ze := hE.ze (g + 1)
   clear X1 I1 hE1 cfe cge x5 d0 d1 d2 d3 d4 d5 d6 d7 d8 d9 cg1 zg1 cl cg zg cf
   go_wp2
   go_ret
   exact ⟨⟨rfl, hE.sete (g + 1) (by omega)⟩, (KB.out.trans hB).setCell (B + 2) (g + 1) (.inr rfl) _⟩
 ·have z0 : (nn != (g : Int) + 1) = true := by simpa using e
  have hnum : num (T.group nn t) (g, en) = none := by simp only [num, if_neg e]
  rw [hnum]
  simp only [Post]
  go_enter Tryz.func89, Tryz.ntmps89
  go_wp2
  go_ret
  exact ⟨rfl, kB⟩
end Go.Proofs.YtgllmhheahlpjaaGreatDoor
