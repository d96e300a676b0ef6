/- areNumbered; May. -/
import Derived.Test.YtjnedhjpgefbpaaGreatDoorZRxG
import Derived.Laws.EntriesVeiled
import Derived.Test.YtjnedhjpgefbpaaGreatDoorZSetZ
import Derived.Lib.ItoaNum
namespace Go.Proofs.YtjnedhjpgefbpaaGreatDoor
open Go.RowKit
set_option linter.unusedVariables false
set_option linter.unusedSimpArgs false

theorem tells_all (B b o0 n cap : Nat) (xs : List Nd) (hlen : xs.length = n) (hn : n ≤ 120) : ∀ t : T, t.Ok → Tells B b o0 n cap xs t
  | .leaf ⟨kd, w0, w1, w2, w3, xa, xb, m, M, xn⟩, h => tells_leaf B b o0 n cap xs hlen hn kd w0 w1 w2 w3 xa xb m M xn h
  | .two k s t, h => by
    rcases h.1 with rfl | rfl
    · exact tells_two4 B b o0 n cap xs hlen hn s t (tells_all B b o0 n cap xs hlen hn s h.2.1) (tells_all B b o0 n cap xs hlen hn t h.2.2)
    · exact tells_two5 B b o0 n cap xs hlen hn s t (tells_all B b o0 n cap xs hlen hn s h.2.1) (tells_all B b o0 n cap xs hlen hn t h.2.2)
  | .times m M t, h => tells_times B b o0 n cap xs hlen hn m M t (tells_all B b o0 n cap xs hlen hn t h.2)
  | .group k t, h => tells_group B b o0 n cap xs hlen hn k h.1 t (tells_all B b o0 n cap xs hlen hn t h.2)

theorem heap_alloc_lt (w : World) (ob : Obj) (c : Nat) (h : c < w.heap.size) : (w.alloc ob).heap[c]? = w.heap[c]? := by
  show (w.heap.push ob)[c]? = _
  rw [Array.getElem?_push_lt h]; simp [h]

set_option maxRecDepth 100000 in
set_option maxHeartbeats 40000000 in
theorem arenumbered_c (b o n cap : Nat) (xs : List Nd) (hlen : xs.length = n) (h1 : 1 ≤ n) (hn : n ≤ 120) (t : T) (ht : t.Ok) (ha : T.At (fun i => xs[i]?) t 0) (hs : t.size = n) (w : World) (hx : NodesAt w b o xs) :
    Calls Tryz.prog 24 #[.slice (some ⟨b, o, none⟩) n cap] w fun e w' => e = .returned (.bool (num t (0, fun _ => false)).isSome) ∧ Below w.heap.size w w' := by
  obtain ⟨p, rfl⟩ : ∃ p, n = p + 1 := ⟨n - 1, by omega⟩
  have IT := Lib.hid fun w1 hE => tells_all w.heap.size b o (p + 1) cap xs hlen hn t ht 0 p 0 (fun _ => false) w1 ha (by omega) (by omega) (by omega) hE
  clear ha ht
  obtain ⟨V, hV⟩ : ∃ V, V = ((((w.alloc (.cells #[.slice (some ⟨b, o, none⟩) (p + 1) cap] 23)).alloc (.cells #[.int .i64 0] 3)).alloc (.cells #[.bool false, .bool false, .bool false, .bool false, .bool false, .bool false, .bool false, .bool false, .bool false, .bool false] 34)).alloc (.cells #[.func (.func 35) #[] #[.pointer (some ⟨w.heap.size, 0, none⟩), .pointer (some ⟨w.heap.size + 1 + 1 + 1, 0, none⟩), .pointer (some ⟨w.heap.size + 1, 0, none⟩), .pointer (some ⟨w.heap.size + 1 + 1, 0, none⟩)]] 63)) := ⟨_, rfl⟩
  have e1 : ((w.alloc (.cells #[.slice (some ⟨b, o, none⟩) (p + 1) cap] 23))).heap.size = w.heap.size + 1 := World.size_alloc _ _
  have e2 : (((w.alloc (.cells #[.slice (some ⟨b, o, none⟩) (p + 1) cap] 23)).alloc (.cells #[.int .i64 0] 3))).heap.size = w.heap.size + 1 + 1 := by rw [World.size_alloc, e1]
  have e3 : ((((w.alloc (.cells #[.slice (some ⟨b, o, none⟩) (p + 1) cap] 23)).alloc (.cells #[.int .i64 0] 3)).alloc (.cells #[.bool false, .bool false, .bool false, .bool false, .bool false, .bool false, .bool false, .bool false, .bool false, .bool false] 34))).heap.size = w.heap.size + 1 + 1 + 1 := by rw [World.size_alloc, e2]
  have g0 : V.heap[w.heap.size]? = some ((.cells #[.slice (some ⟨b, o, none⟩) (p + 1) cap] 23 (0, 0))) := by
    rw [hV, heap_alloc_lt _ _ _ (by omega), heap_alloc_lt _ _ _ (by omega), heap_alloc_lt _ _ _ (by omega)]; exact heap_new _ _
  have g1 : V.heap[w.heap.size + 1]? = some ((.cells #[.int .i64 0] 3 (0, 0))) := by
    rw [hV, heap_alloc_lt _ _ _ (by omega), heap_alloc_lt _ _ _ (by omega), ← e1]; exact heap_new _ _
  have g2 : V.heap[w.heap.size + 2]? = some (.cells (ten fun _ => false) 34 (0, 0)) := by
    rw [hV, heap_alloc_lt _ _ _ (by omega), show w.heap.size + 2 = w.heap.size + 1 + 1 from rfl, ← e2]; exact heap_new _ _
  have g3 : V.heap[w.heap.size + 1 + 1 + 1]? = some ((.cells #[.func (.func 35) #[] #[.pointer (some ⟨w.heap.size, 0, none⟩), .pointer (some ⟨w.heap.size + 1 + 1 + 1, 0, none⟩), .pointer (some ⟨w.heap.size + 1, 0, none⟩), .pointer (some ⟨w.heap.size + 1 + 1, 0, none⟩)]] 63 (0, 0))) := by
    rw [hV, ← e3]; exact heap_new _ _
  clear e1 e2 e3
  have bV : Below w.heap.size w V := by
    rw [hV]
    exact ((((Below.refl _ w).alloc (Nat.le_refl _) _).alloc (by simp) _).alloc (by simp; omega) _).alloc (by simp; omega) _
  have lb := hx.lt
  have hE : Env w.heap.size b o (p + 1) cap xs 0 (fun _ => false) V := ⟨lb, g0, g1, g2, g3, hx.below bV lb⟩
  have cE := hE.cl; have fE := hE.cf
  have I1 := IT.out V hE
  clear IT g0 g1 g2 g3
  generalize num t (0, fun _ => false) = u at *
  rw [hV] at I1 cE fE bV
  clear hE hV
  cases u with
  | none =>
    simp only [Post, Option.isSome_none] at I1 ⊢
    have I1 := Lib.hid I1
    go_enter Tryz.func24, Tryz.ntmps24
    go_wp2_with (go_at_call 35; refine I1.out.mono ?_; rintro e w1 ⟨rfl, hB⟩)
    go_ret
    exact ⟨rfl, bV.trans hB.bel⟩
  | some v =>
    simp only [Post, Option.isSome_some] at I1 ⊢
    have I1 := Lib.hid I1
    go_enter Tryz.func24, Tryz.ntmps24
    go_wp2_with (go_at_call 35; refine I1.out.mono ?_; rintro e w1 ⟨⟨rfl, _⟩, hB⟩)
    go_ret
    exact ⟨rfl, bV.trans hB.bel⟩

/-- A pattern: P3.1. -/
def IsPat (xs : List Nd) (t : T) : Prop :=
  t.Ok ∧ T.At (fun i => xs[i]?) t 0 ∧ t.size = xs.length ∧ xs.length ≤ 120 ∧ (∀ (i : Nat) (x : Nd), xs[i]? = some x → isNd x = true) ∧ (∀ (i : Nat) (x : Nd), xs[i]? = some x → pOk xs x) ∧ (num t (0, fun _ => false)).isSome = true

end Go.Proofs.YtjnedhjpgefbpaaGreatDoor

namespace Go.Proofs.YtjnedhjpgefbpaaGreatDoor
open Go.Lib
set_option linter.unusedVariables false
set_option linter.unusedSimpArgs false

/-! Decimal numerals. -/
theorem dec_mem (u : Nat) : ∀ c ∈ decDigits u, 48 ≤ c.toNat ∧ c.toNat ≤ 57 := by
  induction u using Nat.strongRecOn with
  | _ u ih =>
    intro c hc
    rw [decDigits] at hc
    split at hc
    · simp only [List.mem_singleton] at hc; subst hc
      rw [UInt8.toNat_ofNat']; omega
    · rw [List.mem_append] at hc
      rcases hc with hc | hc
      · exact ih (u / 10) (by omega) c hc
      · simp only [List.mem_singleton] at hc; subst hc
        rw [UInt8.toNat_ofNat']; omega
def decVal (l : List UInt8) : Nat := l.foldl (fun a c => 10 * a + (c.toNat - 48)) 0
theorem dec_val (u : Nat) : decVal (decDigits u) = u := by
  induction u using Nat.strongRecOn with
  | _ u ih =>
    rw [decDigits]
    split
    · simp [decVal, UInt8.toNat_ofNat]; omega
    · have := ih (u / 10) (by omega)
      simp only [decVal] at this ⊢
      rw [List.foldl_append, this]
      simp [UInt8.toNat_ofNat]; omega
theorem dec_ne (u : Nat) : decDigits u ≠ [] := by
  rw [decDigits]; split <;> simp
theorem itoa_mem (n : Int) : ∀ c ∈ itoa n, c.toNat = 45 ∨ (48 ≤ c.toNat ∧ c.toNat ≤ 57) := by
  intro c hc
  unfold itoa at hc
  split at hc
  · simp at hc
    rcases hc with rfl | hc
    · exact .inl rfl
    · exact .inr (dec_mem _ c hc)
  · exact .inr (dec_mem _ c hc)
theorem itoa_inj {n m : Int} (h : itoa n = itoa m) : n = m := by
  have first : ∀ u, ∃ c l, decDigits u = c :: l ∧ 48 ≤ c.toNat := fun u => by
    cases hd : decDigits u with
    | nil => exact absurd hd (dec_ne u)
    | cons c l => exact ⟨c, l, rfl, (dec_mem u c (by rw [hd]; simp)).1⟩
  unfold itoa at h
  by_cases h1 : n < 0 <;> by_cases h2 : m < 0
  · rw [if_pos h1, if_pos h2] at h
    have := congrArg decVal (List.cons.inj h).2
    rw [dec_val, dec_val] at this
    omega
  · rw [if_pos h1, if_neg h2] at h
    obtain ⟨c, l, e, hc⟩ := first m.toNat
    rw [e] at h
    have := (List.cons.inj h).1
    subst this
    simp at hc
  · rw [if_neg h1, if_pos h2] at h
    obtain ⟨c, l, e, hc⟩ := first n.toNat
    rw [e] at h
    have := (List.cons.inj h).1
    subst this
    simp at hc
  · rw [if_neg h1, if_neg h2] at h
    have := congrArg decVal h
    rw [dec_val, dec_val] at this
    omega

/-! What stands ahead of the first of a byte. -/
theorem split_at {α : Type} {c : α} : ∀ {a b r r' : List α}, c ∉ a → c ∉ b → a ++ c :: r = b ++ c :: r' → a = b ∧ r = r'
  | [], [], r, r', _, _, h => ⟨rfl, by simpa using h⟩
  | [], y :: b, r, r', _, hb, h => by simp at h hb; exact absurd h.1 hb.1
  | x :: a, [], r, r', ha, _, h => by simp at h ha; exact absurd h.1.symm ha.1
  | x :: a, y :: b, r, r', ha, hb, h => by
    simp at h ha hb
    obtain ⟨e1, e2⟩ := split_at ha.2 hb.2 h.2
    exact ⟨by rw [h.1, e1], e2⟩

/-! Bytes as two digits of base 16 each. -/
def dig (n : Nat) : UInt8 := if n < 10 then UInt8.ofNat (48 + n) else UInt8.ofNat (87 + n)
theorem dig_inj' : ∀ n, n < 16 → ∀ m, m < 16 → dig n = dig m → n = m := by decide +kernel
theorem dig_inj (n m : Nat) (h : n < 16) (h' : m < 16) (e : dig n = dig m) : n = m := dig_inj' n h m h' e
theorem dig_ne : ∀ n, n < 16 → dig n ≠ 93 := by decide +kernel
def hexl (l : List UInt8) : List UInt8 := l.flatMap fun b => [dig (b.toNat / 16), dig (b.toNat % 16)]
theorem hexl_inj : ∀ {a b : List UInt8}, hexl a = hexl b → a = b
  | [], [], _ => rfl
  | [], y :: b, h => by simp [hexl] at h
  | x :: a, [], h => by simp [hexl] at h
  | x :: a, y :: b, h => by
    simp only [hexl, List.flatMap_cons, List.cons_append, List.nil_append, List.cons.injEq] at h
    have hx := x.toNat_lt; have hy := y.toNat_lt
    have e1 := dig_inj _ _ (by omega) (by omega) h.1
    have e2 := dig_inj _ _ (by omega) (by omega) h.2.1
    have e3 : x = y := UInt8.toNat_inj.1 (by omega)
    rw [e3, hexl_inj h.2.2]
theorem hexl_mem (l : List UInt8) : (93 : UInt8) ∉ hexl l := by
  intro h
  simp only [hexl, List.mem_flatMap] at h
  obtain ⟨b, _, hb⟩ := h
  have := b.toNat_lt
  simp at hb
  rcases hb with hb | hb
  · exact dig_ne _ (by omega) hb.symm
  · exact dig_ne _ (by omega) hb.symm

/-- The set of a node. -/
def Nd.set (x : Nd) : Nat → Bool := ofWords x.w0 x.w1 x.w2 x.w3
theorem set_inj {x y : Nd} (hx : x.Fits) (hy : y.Fits) (h : bytesOf x.set = bytesOf y.set) : x.w0 = y.w0 ∧ x.w1 = y.w1 ∧ x.w2 = y.w2 ∧ x.w3 = y.w3 := by
  have hi : ∀ i, i < 256 → x.set i = y.set i := fun i hi => by
    rw [← inS_bytesOf x.set i hi, ← inS_bytesOf y.set i hi, h]
  obtain ⟨a0, a1, a2, a3⟩ := ofWords_wd hx.s0 hx.s1 hx.s2 hx.s3
  obtain ⟨b0, b1, b2, b3⟩ := ofWords_wd hy.s0 hy.s1 hy.s2 hy.s3
  have e := fun k (hk : k < 4) => wd_congr (f := x.set) (g := y.set) hk hi
  refine ⟨?_, ?_, ?_, ?_⟩
  · rw [← a0, ← b0]; exact e 0 (by omega)
  · rw [← a1, ← b1]; exact e 1 (by omega)
  · rw [← a2, ← b2]; exact e 2 (by omega)
  · rw [← a3, ← b3]; exact e 3 (by omega)

/-- The text of a leaf's head. -/
def leafText (x : Nd) : List UInt8 :=
  if x.kind = 0 then [101] else if x.kind = 1 then 91 :: (hexl (bytesOf x.set).data.toList ++ [93]) else if x.kind = 2 then [94] else if x.kind = 3 then [36] else 92 :: itoa x.n
/-- **The text of a tree: P3.2.** -/
def text : T → List UInt8
  | .leaf x => leafText x
  | .two k a b => (if k = 4 then 38 else 124) :: (text a ++ text b)
  | .times m M t => 42 :: (itoa m ++ 44 :: (itoa M ++ 59 :: text t))
  | .group n t => 40 :: (text t ++ [41])

/-- The nodes' numbers are Go's. -/
def TFits : T → Prop
  | .leaf x => x.Fits
  | .two _ a b => TFits a ∧ TFits b
  | .times _ _ t => TFits t
  | .group _ t => TFits t

theorem digit_one {n : Int} (h : isNum n = true) : itoa n = [UInt8.ofNat (48 + n.toNat)] := by
  have := num_of h
  unfold itoa
  rw [if_neg (by omega), decDigits_one (by omega)]

theorem leaf_read {x y : Nd} {r r' : List UInt8} (hx : x.Fits) (hy : y.Fits) (ox : T.Ok (.leaf x)) (oy : T.Ok (.leaf y)) (h : leafText x ++ r = leafText y ++ r') : x = y ∧ r = r' := by
  obtain ⟨nx, kx⟩ := ox
  obtain ⟨ny, ky⟩ := oy
  have z : ∀ {u : Nd}, isNd u = true → (u.kind = 0 ∨ u.kind = 2 ∨ u.kind = 3) → u = ⟨u.kind, 0, 0, 0, 0, 0, 0, 0, 0, 0⟩ := fun {u} hu hk => by
    unfold isNd at hu; rw [if_pos hk] at hu; exact of_decide_eq_true hu
  have s : ∀ {u : Nd}, isNd u = true → u.kind = 1 → u = ⟨1, u.w0, u.w1, u.w2, u.w3, 0, 0, 0, 0, 0⟩ := fun {u} hu hk => by
    unfold isNd at hu; rw [if_neg (by omega), if_pos hk, Bool.and_eq_true] at hu; exact of_decide_eq_true hu.2
  rcases kx with k | k | k | k | k <;> rcases ky with k' | k' | k' | k' | k' <;> simp [leafText, k, k'] at h
  · exact ⟨by rw [z nx (.inl k), z ny (.inl k'), k, k'], h⟩
  · obtain ⟨e1, e2⟩ := split_at (hexl_mem _) (hexl_mem _) h
    have e3 := hexl_inj e1
    have e4 : bytesOf x.set = bytesOf y.set := by
      have : (bytesOf x.set).data = (bytesOf y.set).data := Array.toList_inj.1 e3
      cases hb : bytesOf x.set; cases hc : bytesOf y.set
      rw [hb, hc] at this; simp at this; rw [this]
    obtain ⟨w0, w1, w2, w3⟩ := set_inj hx hy e4
    refine ⟨?_, e2⟩
    rw [s nx k, s ny k', w0, w1, w2, w3]
  · exact ⟨by rw [z nx (.inr (.inl k)), z ny (.inr (.inl k')), k, k'], h⟩
  · exact ⟨by rw [z nx (.inr (.inr k)), z ny (.inr (.inr k')), k, k'], h⟩
  · obtain ⟨hn, ex⟩ := isNd_ref nx k
    obtain ⟨hn', ey⟩ := isNd_ref ny k'
    rw [digit_one hn, digit_one hn'] at h
    simp only [List.cons_append, List.nil_append, List.cons.injEq] at h
    have a := num_of hn; have b := num_of hn'
    have e := congrArg UInt8.toNat h.1
    rw [UInt8.toNat_ofNat', UInt8.toNat_ofNat'] at e
    have e2 : x.n = y.n := by omega
    exact ⟨by rw [ex, ey, e2], h.2⟩

end Go.Proofs.YtjnedhjpgefbpaaGreatDoor
