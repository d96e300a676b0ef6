/- Hits of an address, but for the drawn part: what lies there; what the array of functions holds. -/
import Derived.Test.YtaamhjjdhebjfaaGreatDoorRows
import Derived.Test.YtaamhjjdhebjfaaGreatDoorAdA
import Derived.WalkKit
import Derived.WalkLawsBesides
import Derived.OwnWalk
import Derived.BigQuiet
import Derived.Deep.QuietTactic
import Derived.Deep.RegionHeld3
import Derived.Laws.EntriesVeiled
import Derived.Lib.Hide
namespace Go.Proofs.YtaamhjjdhebjfaaGreatDoor
open Go.RowKit
set_option linter.unusedVariables false
set_option linter.unusedSimpArgs false

theorem heap_new (w : World) (o : Obj) : (w.alloc o).heap[w.heap.size]? = some o := by show (w.heap.push _)[w.heap.size]? = _; simp

/-- The bools H lie there, to be read. -/
structure Bls (w : World) (p : Option Addr) (n cap : Nat) (H : List Bool) : Prop where
  len : H.length = n
  le : n ≤ cap
  capm : cap ≤ maxLen
  ptr : 1 ≤ n → ∃ b o, p = some ⟨b, o, none⟩
  lt : 1 ≤ n → ∀ b o, p = some ⟨b, o, none⟩ → b < w.heap.size
  cell : ∀ b o, p = some ⟨b, o, none⟩ → ∀ (i : Nat) (x : Bool), H[i]? = some x → w.cell? ⟨b, o + i, none⟩ = some (.bool x)
theorem Bls.below {w w' : World} {p : Option Addr} {n cap B : Nat} {H : List Bool} (h : Bls w p n cap H) (hB : Below B w w') (hb : w.heap.size ≤ B) : Bls w' p n cap H :=
  ⟨h.len, h.le, h.capm, h.ptr, fun h1 b o e => Nat.lt_of_lt_of_le (h.lt h1 b o e) hB.size, fun b o e i x hx => by
    have h1 : 1 ≤ n := by have := (List.getElem?_eq_some_iff.1 hx).1; have := h.len; omega
    have := h.lt h1 b o e
    rw [hB.cell (p := ⟨b, _, none⟩) (Nat.lt_of_lt_of_le this hb)]
    exact h.cell b o e i x hx⟩
theorem Bls.alloc {w : World} {p : Option Addr} {n cap : Nat} {H : List Bool} (h : Bls w p n cap H) (o : Obj) : Bls (w.alloc o) p n cap H := h.below ((Below.refl _ w).alloc (Nat.le_refl _) o) (Nat.le_refl _)
theorem Bls.none_ (w : World) : Bls w none 0 0 [] := ⟨rfl, Nat.le_refl _, by unfold maxLen; omega, fun h => absurd h (by omega), fun h => absurd h (by omega), fun b o e => by cases e⟩

def adv (a : Ad) : Value := .agg #[.int .i64 a.k, .int .i64 a.n, .int .i64 a.m]
def lnv (N : Int) (L : Bool) (hv : Value) : Value := .agg #[.int .i64 N, .bool L, hv]
def rgv (r : Rg) : Value := .agg #[.int .i64 r.a.k, .int .i64 r.a.n, .int .i64 r.a.m, .int .i64 r.b.k, .int .i64 r.b.n, .int .i64 r.b.m, .bool r.not]
def stv (s : Bool × Int) : Value := .agg #[.bool s.1, .int .i64 s.2]
def stl (s : Bool × Int) : Array Value := #[.bool s.1, .int .i64 s.2]

set_option maxRecDepth 100000 in
set_option maxHeartbeats 4000000 in
theorem iskind_c (k : Int) (w : World) : Calls Tryz.prog 32 #[.int .i64 k] w fun e w' => e = .returned (.bool (decide (0 ≤ k) && decide (k < 7))) ∧ w' = w := by
  by_cases h1 : 0 ≤ k
  · by_cases h2 : k < 7
    · have t1 : decide (0 ≤ k) = true := by simp [h1]
      have t2 : decide (k < 7) = true := by simp [h2]
      go_enter Tryz.func32, Tryz.ntmps32
      go_wp2
      go_ret
      exact ⟨by simp [h1, h2], rfl⟩
    · have t2 : decide (k < 7) = false := by simp; omega
      go_enter Tryz.func32, Tryz.ntmps32
      go_wp2
      go_ret
      exact ⟨by simp [h1, h2], rfl⟩
  · have t1 : decide (0 ≤ k) = false := by simp; omega
    go_enter Tryz.func32, Tryz.ntmps32
    go_wp2
    go_ret
    exact ⟨by simp [h1], rfl⟩
set_option maxRecDepth 100000 in
set_option maxHeartbeats 4000000 in
theorem isahead_c (a : Ad) (w : World) : Calls Tryz.prog 22 #[adv a] w fun e w' => e = .returned (.bool (decide (a.k = 1 ∧ a.n = 0))) ∧ Below w.heap.size w w' := by
  obtain ⟨k, n, m⟩ := a
  unfold adv
  simp only
  have HB := Lib.hid ((Below.refl _ w).alloc (Nat.le_refl _) (.cells #[.int .i64 k, .int .i64 n, .int .i64 m] 23))
  by_cases h1 : k = 1
  · subst h1
    by_cases h2 : n = 0
    · subst h2
      go_enter Tryz.func22, Tryz.ntmps22
      go_wp2
      go_ret
      exact ⟨rfl, HB.out⟩
    · have t2 : (n == 0) = false := by simpa using h2
      go_enter Tryz.func22, Tryz.ntmps22
      go_wp2
      go_ret
      exact ⟨by simp [h2], HB.out⟩
  · have t2 : (k == 1) = false := by simpa using h1
    go_enter Tryz.func22, Tryz.ntmps22
    go_wp2
    go_ret
    exact ⟨by simp [h1], HB.out⟩

/-- What the array of functions that tell whether a line is meant holds. -/
def hitV : Value := .agg #[.func (.func 61) #[] #[], .func (.func 62) #[] #[], .func (.func 63) #[] #[], .func (.func 64) #[] #[], .func (.func 65) #[] #[], .func (.func 60) #[] #[], .func (.func 60) #[] #[]]
set_option maxRecDepth 100000 in
set_option maxHeartbeats 4000000 in
theorem hitters_c (w : World) : Calls Tryz.prog 46 #[] w fun e w' => e = .returned hitV ∧ Below w.heap.size w w' := by
  unfold hitV
  go_enter Tryz.func46, Tryz.ntmps46
  go_wp2
  refine bodyPost_ret (v := hitV) (by simp [results, Tryz.results46, go_sem, hitV]) rfl ⟨rfl, (Below.refl _ w).alloc (Nat.le_refl _) _⟩

theorem Below.al2 (w : World) (o1 o2 : Obj) : Below w.heap.size w ((w.alloc o1).alloc o2) := by
  have h := (Below.refl _ w).alloc (Nat.le_refl _) o1
  exact h.alloc h.size o2

set_option maxRecDepth 100000 in
set_option maxHeartbeats 4000000 in
theorem hit1_c (a : Ad) (N : Int) (L : Bool) (hv : Value) (w : World) : Calls Tryz.prog 60 #[adv a, lnv N L hv] w fun e w' => e = .returned (.bool false) ∧ Below w.heap.size w w' := by
  obtain ⟨k, n, m⟩ := a
  unfold adv lnv
  have HB := Lib.hid (Below.al2 w)
  go_enter Tryz.func60, Tryz.ntmps60
  go_wp2
  go_ret
  exact ⟨rfl, HB.out _ _⟩
set_option maxRecDepth 100000 in
set_option maxHeartbeats 4000000 in
theorem hit2_c (a : Ad) (N : Int) (L : Bool) (hv : Value) (w : World) : Calls Tryz.prog 61 #[adv a, lnv N L hv] w fun e w' => e = .returned (.bool true) ∧ Below w.heap.size w w' := by
  obtain ⟨k, n, m⟩ := a
  unfold adv lnv
  have HB := Lib.hid (Below.al2 w)
  go_enter Tryz.func61, Tryz.ntmps61
  go_wp2
  go_ret
  exact ⟨rfl, HB.out _ _⟩
set_option maxRecDepth 100000 in
set_option maxHeartbeats 4000000 in
theorem hit3_c (a : Ad) (N : Int) (L : Bool) (hv : Value) (w : World) : Calls Tryz.prog 62 #[adv a, lnv N L hv] w fun e w' => e = .returned (.bool (decide (N = a.n))) ∧ Below w.heap.size w w' := by
  obtain ⟨k, n, m⟩ := a
  unfold adv lnv
  have HB := Lib.hid (Below.al2 w)
  go_enter Tryz.func62, Tryz.ntmps62
  go_wp2
  go_ret
  exact ⟨rfl, HB.out _ _⟩
set_option maxRecDepth 100000 in
set_option maxHeartbeats 4000000 in
theorem hit4_c (a : Ad) (N : Int) (L : Bool) (hv : Value) (w : World) : Calls Tryz.prog 63 #[adv a, lnv N L hv] w fun e w' => e = .returned (.bool L) ∧ Below w.heap.size w w' := by
  obtain ⟨k, n, m⟩ := a
  unfold adv lnv
  have HB := Lib.hid (Below.al2 w)
  go_enter Tryz.func63, Tryz.ntmps63
  go_wp2
  go_ret
  exact ⟨rfl, HB.out _ _⟩

theorem wrapU {x : Int} (h0 : 0 ≤ x) (h1 : x ≤ 9999999999) : IntKind.u64.wrap x = x := by simp [IntKind.wrap, IntKind.signed, IntKind.bits]; omega
def reachB (a : Ad) (N : Int) : Bool := if a.m ≤ 0 then decide (N = a.n) else decide (a.n ≤ N ∧ (N - a.n) % a.m = 0)
set_option maxRecDepth 100000 in
set_option maxHeartbeats 4000000 in
theorem reached_c (a : Ad) (N : Int) (L : Bool) (hv : Value) (hn0 : 0 ≤ a.n) (hn : a.n ≤ 999999999) (hm : a.m ≤ 999999999) (hN0 : 0 ≤ N) (hN : N ≤ 999999999) (w : World) :
    Calls Tryz.prog 64 #[adv a, lnv N L hv] w fun e w' => e = .returned (.bool (reachB a N)) ∧ Below w.heap.size w w' := by
  obtain ⟨k, n, m⟩ := a
  simp only at hn0 hn hm
  unfold adv lnv reachB
  simp only
  have HB := Lib.hid (Below.al2 w)
  by_cases h1 : m ≤ 0
  · rw [if_pos h1]
    have t1 : decide (m ≤ 0) = true := by simp [h1]
    go_enter Tryz.func64, Tryz.ntmps64
    go_wp2
    go_ret
    exact ⟨rfl, HB.out _ _⟩
  · rw [if_neg h1]
    have t1 : decide (m ≤ 0) = false := by simp; omega
    by_cases h2 : n ≤ N
    · have t2 : decide (n ≤ N) = true := by simp [h2]
      have q1 : IntKind.u64.wrap N = N := wrapU (by omega) (by omega)
      have q2 : IntKind.u64.wrap n = n := wrapU (by omega) (by omega)
      have q3 : IntKind.u64.wrap m = m := wrapU (by omega) (by omega)
      have q4 : IntKind.u64.wrap (N - n) = N - n := wrapU (by omega) (by omega)
      go_enter Tryz.func64, Tryz.ntmps64
      go_wp2
      go_ret
      exact ⟨by simp only [h2, true_and]; rfl, HB.out _ _⟩
    · have t2 : decide (n ≤ N) = false := by simp; omega
      go_enter Tryz.func64, Tryz.ntmps64
      go_wp2
      go_ret
      exact ⟨by simp [h2], HB.out _ _⟩

set_option maxRecDepth 100000 in
set_option maxHeartbeats 4000000 in
theorem hit5_c (a : Ad) (N : Int) (L : Bool) (p : Option Addr) (ln cap : Nat) (H : List Bool) (w : World) (hH : Bls w p ln cap H) :
    Calls Tryz.prog 65 #[adv a, lnv N L (.slice p ln cap)] w fun e w' => e = .returned (.bool (hasAt H a.n)) ∧ Below w.heap.size w w' := by
  obtain ⟨k, n, m⟩ := a
  unfold adv lnv
  simp only
  have HB := Lib.hid (Below.al2 w)
  have hcm := hH.capm
  have hle := hH.le
  have hlen := hH.len
  unfold maxLen at hcm
  by_cases h1 : 0 ≤ n
  · have t1 : decide (0 ≤ n) = true := by simp [h1]
    by_cases h2 : n < ln
    · obtain ⟨b, o, rfl⟩ := hH.ptr (by omega)
      obtain ⟨j, rfl⟩ : ∃ j : Nat, n = j := ⟨n.toNat, by omega⟩
      obtain ⟨x, hx⟩ : ∃ x, H[j]? = some x := ⟨H[j]'(by omega), List.getElem?_eq_getElem (by omega)⟩
      have hc := hH.cell b o rfl j x hx
      have hlt := hH.lt (by omega) b o rfl
      rw [hasAt_in hx]
      have t2 : decide ((j : Int) < (ln : Int)) = true := by simp; omega
      have t3 : (j : Int) < (ln : Int) := h2
      clear hH hx h2 hlen
      go_enter Tryz.func65, Tryz.ntmps65
      go_wp2
      go_ret
      exact ⟨rfl, HB.out _ _⟩
    · have t2 : decide (n < ln) = false := by simp; omega
      rw [hasAt_out (by omega)]
      go_enter Tryz.func65, Tryz.ntmps65
      go_wp2
      go_ret
      exact ⟨rfl, HB.out _ _⟩
  · have t1 : decide (0 ≤ n) = false := by simp; omega
    rw [hasAt_out (by omega)]
    go_enter Tryz.func65, Tryz.ntmps65
    go_wp2
    go_ret
    exact ⟨rfl, HB.out _ _⟩

end Go.Proofs.YtaamhjjdhebjfaaGreatDoor
