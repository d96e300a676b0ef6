/- Files in memory: rows of two strings; bounded. -/
import Derived.Test.YtkdnnhjoeaoihaaRows
import Derived.WalkKit
import Derived.WalkLawsBesides
import Derived.OwnWalk
import Derived.BigQuiet
import Derived.Deep.QuietTactic
import Derived.Lib.Hide
namespace Go.Proofs.Ytkdnnhjoeaoihaa
open Go.RowKit
set_option linter.unusedVariables false
set_option linter.unusedSimpArgs false

theorem heap_new (w : World) (o : Obj) : (w.alloc o).heap[w.heap.size]? = some o := by show (w.heap.push _)[w.heap.size]? = _; simp
theorem cell_of (w : World) (b : Nat) (vs : Array Value) (t : TypeId) {f : Nat × Nat} (h : w.heap[b]? = some (.cells vs t f)) (j : Nat) : w.cell? ⟨b, j, none⟩ = vs[j]? := by simp [World.cell?, h]

/-- A file: its name, and its bytes. -/
abbrev Fl := ByteArray × ByteArray
def fcs (x : Fl) : List Value := [.string x.1, .string x.2]
def frow (xs : List Fl) : List Value := xs.flatMap fcs
theorem frow_len (xs : List Fl) : (frow xs).length = xs.length * 2 := by
  induction xs with
  | nil => rfl
  | cons a l ih => simp only [frow, List.flatMap_cons, List.length_append, List.length_cons, fcs, List.length_nil] at *; omega
theorem frow_app (xs ys : List Fl) : frow (xs ++ ys) = frow xs ++ frow ys := by simp [frow]
theorem frow_at (xs : List Fl) (i : Nat) (x : Fl) (h : xs[i]? = some x) : (frow xs)[i * 2]? = some (.string x.1) ∧ (frow xs)[i * 2 + 1]? = some (.string x.2) := by
  obtain ⟨hk, e⟩ := List.getElem?_eq_some_iff.1 h
  have e1 : frow xs = frow (xs.take i) ++ (fcs x ++ frow (xs.drop (i + 1))) := by
    have : xs = xs.take i ++ (x :: xs.drop (i + 1)) := by rw [← e, List.getElem_cons_drop, List.take_append_drop]
    conv => lhs; rw [this]
    simp [frow]
  have hl : (frow (xs.take i)).length = i * 2 := by rw [frow_len, List.length_take]; congr 1; omega
  rw [e1]
  constructor
  · rw [List.getElem?_append_right (by omega), hl]; simp [fcs]
  · rw [List.getElem?_append_right (by omega), hl]; simp [fcs]

/-- The files xs lie there, to be read. -/
structure Files (w : World) (p : Option Addr) (n cap : Nat) (xs : List Fl) : Prop where
  len : xs.length = n
  le : n ≤ cap
  capm : cap ≤ maxLen
  nil : p = none → n = 0 ∧ cap = 0
  ptr : 1 ≤ n → ∃ b o, p = some ⟨b, o, none⟩
  lt : 1 ≤ n → ∀ b o, p = some ⟨b, o, none⟩ → b < w.heap.size
  cell : ∀ b o, p = some ⟨b, o, none⟩ → ∀ (i : Nat) (x : Fl), xs[i]? = some x → w.cell? ⟨b, o + i * 2, none⟩ = some (.string x.1) ∧ w.cell? ⟨b, o + i * 2 + 1, none⟩ = some (.string x.2)
theorem Files.below {w w' : World} {p : Option Addr} {n cap B : Nat} {xs : List Fl} (h : Files w p n cap xs) (hB : Below B w w') (hb : 1 ≤ n → ∀ b o, p = some ⟨b, o, none⟩ → b < B) : Files w' p n cap xs :=
  ⟨h.len, h.le, h.capm, h.nil, h.ptr, fun h1 b o e => Nat.lt_of_lt_of_le (h.lt h1 b o e) hB.size, fun b o e i x hx => by
    have h1 : 1 ≤ n := by have := (List.getElem?_eq_some_iff.1 hx).1; have := h.len; omega
    have := hb h1 b o e
    rw [hB.cell (p := ⟨b, _, none⟩) this, hB.cell (p := ⟨b, _, none⟩) this]
    exact h.cell b o e i x hx⟩
theorem Files.beside {w w' : World} {p : Option Addr} {n cap : Nat} {xs : List Fl} (h : Files w p n cap xs) (hB : Below w.heap.size w w') : Files w' p n cap xs := h.below hB h.lt
theorem Files.alloc {w : World} {p : Option Addr} {n cap : Nat} {xs : List Fl} (h : Files w p n cap xs) (o : Obj) : Files (w.alloc o) p n cap xs := h.beside ((Below.refl _ w).alloc (Nat.le_refl _) o)
theorem Files.none_ (w : World) : Files w none 0 0 [] := ⟨rfl, Nat.le_refl _, by unfold maxLen; omega, fun _ => ⟨rfl, rfl⟩, fun h => absurd h (by omega), fun h => absurd h (by omega), fun b o e => by cases e⟩

/-- A row of files of the call's own, to be read. -/
theorem files_of_own {w : World} {B n T : Nat} {v : Value} {xs : List Fl} (h : w.ownsRow B T 2 v n (frow xs)) :
    ∃ p cap, v = .slice p n cap ∧ Files w p n cap xs ∧ (1 ≤ n → ∃ g, p = some ⟨g, 0, none⟩ ∧ B ≤ g) := by
  have hl : xs.length = n := by have := h.1; rw [frow_len] at this; omega
  rcases h.2 with ⟨rfl, rfl⟩ | ⟨g, cap, cur, rfl, hg, hb, hc1, hc2, hc, ht⟩
  · obtain rfl : xs = [] := List.eq_nil_of_length_eq_zero hl
    exact ⟨none, 0, rfl, Files.none_ w, fun h => absurd h (by omega)⟩
  · refine ⟨some ⟨g, 0, none⟩, cap, rfl, ⟨hl, hc1, hc2, (fun e => by cases e), fun _ => ⟨g, 0, rfl⟩, fun _ b o e => ?_, fun b o e i x hx => ?_⟩, fun _ => ⟨g, rfl, hg⟩⟩
    · simp only [Option.some.injEq, Addr.mk.injEq] at e
      obtain ⟨rfl, rfl, _⟩ := e
      exact (Array.getElem?_eq_some_iff.1 hb).1
    · simp only [Option.some.injEq, Addr.mk.injEq] at e
      obtain ⟨rfl, rfl, _⟩ := e
      have hi : i < xs.length := (List.getElem?_eq_some_iff.1 hx).1
      obtain ⟨e1, e2⟩ := frow_at xs i x hx
      have h1 := h.cellAt (g := g) (i * 2) (by omega)
      have h2 := h.cellAt (g := g) (i * 2 + 1) (by omega)
      rw [Nat.zero_add, h1, h2]
      exact ⟨e1, e2⟩

def okF (x : Fl) : Bool := decide (x.1.size ≤ 100) && decide (x.2.size ≤ 300)
def bnd (xs : List Fl) : Bool := xs.all okF && decide (xs.length ≤ 40)

theorem take_snoc_all {α : Type} (f : α → Bool) (xs : List α) (k : Nat) (x : α) (h : xs[k]? = some x) : (xs.take (k + 1)).all f = ((xs.take k).all f && f x) := by
  obtain ⟨hk, e⟩ := List.getElem?_eq_some_iff.1 h
  rw [List.take_succ_eq_append_getElem hk, e]; simp
theorem all_false_of {α : Type} (f : α → Bool) (xs : List α) (k : Nat) (x : α) (h : xs[k]? = some x) (hf : f x = false) : xs.all f = false := by
  rw [← Bool.not_eq_true, List.all_eq_true]
  intro hh
  rw [hh x (List.mem_of_getElem? h)] at hf
  cases hf

set_option maxRecDepth 100000 in
set_option maxHeartbeats 4000000 in
theorem bounded_c (p : Option Addr) (n cap : Nat) (xs : List Fl) (w : World) (h : Files w p n cap xs) :
    Calls Try.prog 9 #[.slice p n cap] w fun e w' => e = .returned (.bool (bnd xs)) ∧ w' = w := by
  have hlen := h.len
  have hm := h.le
  have hm2 := h.capm
  unfold maxLen at hm2
  go_enter Try.func9, Try.ntmps9
  go_wp2
  go_loop [3] (fun i => ∃ k : Nat, k ≤ n ∧ i = .int .i64 k ∧ (xs.take k).all okF = true) (fun i => n - (intOf i).toNat)
  case atStart => exact ⟨0, by omega, rfl, by simp⟩
  case round =>
    obtain ⟨k, hk, rfl, ha⟩ := hrel
    by_cases hlt : k < n
    · obtain ⟨b, o, rfl⟩ := h.ptr (by omega)
      obtain ⟨x, hxk⟩ : ∃ x, xs[k]? = some x := ⟨xs[k]'(by omega), List.getElem?_eq_getElem (by omega)⟩
      obtain ⟨c0, c1⟩ := h.cell b o rfl k x hxk
      have hs := take_snoc_all okF xs k x hxk
      have hf := all_false_of okF xs k x hxk
      have hki : (k : Int) < n := by omega
      obtain ⟨s, d⟩ := x
      simp only at c0 c1
      simp only [okF] at hs hf
      have HS := Lib.hid hs
      have HF := Lib.hid hf
      have HA := Lib.hid ha
      clear hs hf ha hxk h
      by_cases h1 : s.size ≤ 100
      · have t1 : decide ((100 : Int) < (s.size : Int)) = false := by simp; omega
        by_cases h2 : d.size ≤ 300
        · have t2 : decide ((300 : Int) < (d.size : Int)) = false := by simp; omega
          go_wp2
          go_round
          case rel => exact ⟨k + 1, by omega, by simp, by rw [HS.out, HA.out]; simp [h1, h2]⟩
          case measure => simp [intOf]; omega
        · have t2 : decide ((300 : Int) < (d.size : Int)) = true := by simp; omega
          go_wp2
          go_ret
          exact ⟨by unfold bnd; rw [HF.out (by simp [h2])]; rfl, rfl⟩
      · have t1 : decide ((100 : Int) < (s.size : Int)) = true := by simp; omega
        go_wp2
        go_ret
        exact ⟨by unfold bnd; rw [HF.out (by simp [h1])]; rfl, rfl⟩
    · obtain rfl : k = n := by omega
      have hlt1 : ((k : Int) < k) = False := by simp
      have HA : xs.all okF = true := by rw [← ha, ← hlen, List.take_length]
      have HH := Lib.hid HA
      clear HA ha
      go_wp2
      go_ret
      refine ⟨?_, rfl⟩
      unfold bnd
      rw [HH.out, hlen]
      congr 2
      simp
      try omega

end Go.Proofs.Ytkdnnhjoeaoihaa
