/- areNumbered; May. -/
import Derived.Test.YthbldjiibgnfmaaGreatDoorZRxG
import Derived.Laws.EntriesVeiled
import Derived.Test.YthbldjiibgnfmaaGreatDoorZSetZ
import Derived.Lib.ItoaNum
namespace Go.Proofs.YthbldjiibgnfmaaGreatDoor
open Go.RowKit
set_option linter.unusedVariables false
set_option linter.unusedSimpArgs false

theorem tells_all (B b o0 n cap : Nat) (xs : List Nd) (hlen : xs.length = n) (hn : n ≤ 120) : ∀ t : T, t.Ok → Tells B b o0 n cap xs t
  | .leaf ⟨kd, w0, w1, w2, w3, xa, xb, m, M, xn⟩, h => tells_leaf B b o0 n cap xs hlen hn kd w0 w1 w2 w3 xa xb m M xn h
  | .two k s t, h => by
    rcases h.1 with rfl | rfl
    · exact tells_two4 B b o0 n cap xs hlen hn s t (tells_all B b o0 n cap xs hlen hn s h.2.1) (tells_all B b o0 n cap xs hlen hn t h.2.2)
    · exact tells_two5 B b o0 n cap xs hlen hn s t (tells_all B b o0 n cap xs hlen hn s h.2.1) (tells_all B b o0 n cap xs hlen hn t h.2.2)
  | .times m M t, h => tells_times B b o0 n cap xs hlen hn m M t (tells_all B b o0 n cap xs hlen hn t h.2)
  | .group k t, h => tells_group B b o0 n cap xs hlen hn k h.1 t (tells_all B b o0 n cap xs hlen hn t h.2)

theorem heap_alloc_lt (w : World) (ob : Obj) (c : Nat) (h : c < w.heap.size) : (w.alloc ob).heap[c]? = w.heap[c]? := by
  show (w.heap.push ob)[c]? = _
  rw [Array.getElem?_push_lt h]; simp [h]

set_option maxRecDepth 100000 in
set_option maxHeartbeats 40000000 in
theorem arenumbered_c (b o n cap : Nat) (xs : List Nd) (hlen : xs.length = n) (h1 : 1 ≤ n) (hn : n ≤ 120) (t : T) (ht : t.Ok) (ha : T.At (fun i => xs[i]?) t 0) (hs : t.size = n) (w : World) (hx : NodesAt w b o xs) :
    Calls Tryz.prog 56 #[.slice (some ⟨b, o, none⟩) n cap] w fun e w' => e = .returned (.bool (num t (0, fun _ => false)).isSome) ∧ Below w.heap.size w w' := by
  obtain ⟨p, rfl⟩ : ∃ p, n = p + 1 := ⟨n - 1, by omega⟩
  have IT := Lib.hid fun w1 hE => tells_all w.heap.size b o (p + 1) cap xs hlen hn t ht 0 p 0 (fun _ => false) w1 ha (by omega) (by omega) (by omega) hE
  clear ha ht
  obtain ⟨V, hV⟩ : ∃ V, V = ((((w.alloc (.cells #[.slice (some ⟨b, o, none⟩) (p + 1) cap] 31)).alloc (.cells #[.int .i64 0] 3)).alloc (.cells #[.bool false, .bool false, .bool false, .bool false, .bool false, .bool false, .bool false, .bool false, .bool false, .bool false] 55)).alloc (.cells #[.func (.func 79) #[] #[.pointer (some ⟨w.heap.size, 0, none⟩), .pointer (some ⟨w.heap.size + 1 + 1 + 1, 0, none⟩), .pointer (some ⟨w.heap.size + 1, 0, none⟩), .pointer (some ⟨w.heap.size + 1 + 1, 0, none⟩)]] 114)) := ⟨_, rfl⟩
  have e1 : ((w.alloc (.cells #[.slice (some ⟨b, o, none⟩) (p + 1) cap] 31))).heap.size = w.heap.size + 1 := World.size_alloc _ _
  have e2 : (((w.alloc (.cells #[.slice (some ⟨b, o, none⟩) (p + 1) cap] 31)).alloc (.cells #[.int .i64 0] 3))).heap.size = w.heap.size + 1 + 1 := by rw [World.size_alloc, e1]
  have e3 : ((((w.alloc (.cells #[.slice (some ⟨b, o, none⟩) (p + 1) cap] 31)).alloc (.cells #[.int .i64 0] 3)).alloc (.cells #[.bool false, .bool false, .bool false, .bool false, .bool false, .bool false, .bool false, .bool false, .bool false, .bool false] 55))).heap.size = w.heap.size + 1 + 1 + 1 := by rw [World.size_alloc, e2]
  have g0 : V.heap[w.heap.size]? = some ((.cells #[.slice (some ⟨b, o, none⟩) (p + 1) cap] 31 (0, 0))) := by
    rw [hV, heap_alloc_lt _ _ _ (by omega), heap_alloc_lt _ _ _ (by omega), heap_alloc_lt _ _ _ (by omega)]; exact heap_new _ _
  have g1 : V.heap[w.heap.size + 1]? = some ((.cells #[.int .i64 0] 3 (0, 0))) := by
    rw [hV, heap_alloc_lt _ _ _ (by omega), heap_alloc_lt _ _ _ (by omega), ← e1]; exact heap_new _ _
  have g2 : V.heap[w.heap.size + 2]? = some (.cells (ten fun _ => false) 55 (0, 0)) := by
    rw [hV, heap_alloc_lt _ _ _ (by omega), show w.heap.size + 2 = w.heap.size + 1 + 1 from rfl, ← e2]; exact heap_new _ _
  have g3 : V.heap[w.heap.size + 1 + 1 + 1]? = some ((.cells #[.func (.func 79) #[] #[.pointer (some ⟨w.heap.size, 0, none⟩), .pointer (some ⟨w.heap.size + 1 + 1 + 1, 0, none⟩), .pointer (some ⟨w.heap.size + 1, 0, none⟩), .pointer (some ⟨w.heap.size + 1 + 1, 0, none⟩)]] 114 (0, 0))) := by
    rw [hV, ← e3]; exact heap_new _ _
  clear e1 e2 e3
  have bV : Below w.heap.size w V := by
    rw [hV]
    exact ((((Below.refl _ w).alloc (Nat.le_refl _) _).alloc (by simp) _).alloc (by simp; omega) _).alloc (by simp; omega) _
  have lb := hx.lt
  have hE : Env w.heap.size b o (p + 1) cap xs 0 (fun _ => false) V := ⟨lb, g0, g1, g2, g3, hx.below bV lb⟩
  have cE := hE.cl; have fE := hE.cf
  have I1 := IT.out V hE
  clear IT g0 g1 g2 g3
  generalize num t (0, fun _ => false) = u at *
  rw [hV] at I1 cE fE bV
  clear hE hV
  cases u with
  | none =>
    simp only [Post, Option.isSome_none] at I1 ⊢
    have I1 := Lib.hid I1
    go_enter Tryz.func56, Tryz.ntmps56
    go_wp2_with (go_at_call 79; refine I1.out.mono ?_; rintro e w1 ⟨rfl, hB⟩)
    go_ret
    exact ⟨rfl, bV.trans hB.bel⟩
  | some v =>
    simp only [Post, Option.isSome_some] at I1 ⊢
    have I1 := Lib.hid I1
    go_enter Tryz.func56, Tryz.ntmps56
    go_wp2_with (go_at_call 79; refine I1.out.mono ?_; rintro e w1 ⟨⟨rfl, _⟩, hB⟩)
    go_ret
    exact ⟨rfl, bV.trans hB.bel⟩

/-- A pattern: P3.1. -/
def IsPat (xs : List Nd) (t : T) : Prop :=
  t.Ok ∧ T.At (fun i => xs[i]?) t 0 ∧ t.size = xs.length ∧ xs.length ≤ 120 ∧ (∀ (i : Nat) (x : Nd), xs[i]? = some x → isNd x = true) ∧ (∀ (i : Nat) (x : Nd), xs[i]? = some x → pOk xs x) ∧ (num t (0, fun _ => false)).isSome = true

end Go.Proofs.YthbldjiibgnfmaaGreatDoor

namespace Go.Proofs.YthbldjiibgnfmaaGreatDoor
open Go.Lib
set_option linter.unusedVariables false
set_option linter.unusedSimpArgs false

/-! Decimal numerals. -/
/-! What stands ahead of the first of a byte. -/
/-! Bytes as two digits of base 16 each. -/
def dig (n : Nat) : UInt8 := if n < 10 then UInt8.ofNat (48 + n) else UInt8.ofNat (87 + n)
def hexl (l : List UInt8) : List UInt8 := l.flatMap fun b => [dig (b.toNat / 16), dig (b.toNat % 16)]
/-- The set of a node. -/
def Nd.set (x : Nd) : Nat → Bool := ofWords x.w0 x.w1 x.w2 x.w3
/-- The text of a leaf's head. -/
def leafText (x : Nd) : List UInt8 :=
  if x.kind = 0 then [101] else if x.kind = 1 then 91 :: (hexl (bytesOf x.set).data.toList ++ [93]) else if x.kind = 2 then [94] else if x.kind = 3 then [36] else 92 :: itoa x.n
/-- **The text of a tree: P3.2.** -/
def text : T → List UInt8
  | .leaf x => leafText x
  | .two k a b => (if k = 4 then 38 else 124) :: (text a ++ text b)
  | .times m M t => 42 :: (itoa m ++ 44 :: (itoa M ++ 59 :: text t))
  | .group n t => 40 :: (text t ++ [41])

theorem digit_one {n : Int} (h : isNum n = true) : itoa n = [UInt8.ofNat (48 + n.toNat)] := by
  have := num_of h
  unfold itoa
  rw [if_neg (by omega), decDigits_one (by omega)]

end Go.Proofs.YthbldjiibgnfmaaGreatDoor
