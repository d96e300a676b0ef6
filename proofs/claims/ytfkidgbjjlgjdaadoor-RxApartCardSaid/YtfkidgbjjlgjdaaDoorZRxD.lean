/- partsMay. -/
import Derived.Test.YtfkidgbjjlgjdaaDoorZRxC
namespace Go.Proofs.YtfkidgbjjlgjdaaDoor
open Go.RowKit
set_option linter.unusedVariables false
set_option linter.unusedSimpArgs false

/-- The kind of the node at a place. -/
def kindAt (xs : List Nd) (a : Int) : Int := match xs[a.toNat]? with
  | some y => y.kind
  | none => 0
/-- A node is of a kind that it may be where it stands. -/
def pOk (xs : List Nd) (x : Nd) : Prop :=
  if x.kind = 0 then xs.length = 1
  else if x.kind = 4 then kindAt xs x.a ≠ 4 ∧ kindAt xs x.a ≠ 5 ∧ kindAt xs x.b ≠ 5
  else if x.kind = 5 then kindAt xs x.a ≠ 5
  else if x.kind = 6 then kindAt xs x.a = 1 ∨ kindAt xs x.a = 7 ∨ kindAt xs x.a = 8
  else True
/-- The places of a node's parts are places of the list. -/
def pIn (n : Nat) (x : Nd) : Prop :=
  ((x.kind = 4 ∨ x.kind = 5) → ∃ p q : Nat, x.a = p ∧ x.b = q ∧ p < n ∧ q < n) ∧ ((x.kind = 6 ∨ x.kind = 7) → ∃ p : Nat, x.a = p ∧ p < n)

theorem kind_cell {w : World} {b o n : Nat} {xs : List Nd} (hx : NodesAt w b o xs) (hn : xs.length = n) (p : Nat) (hp : p < n) : w.cell? ⟨b, o + p * 10, none⟩ = some (.int .i64 (kindAt xs p)) := by
  have e : xs[p]? = some (xs[p]'(by omega)) := List.getElem?_eq_getElem (by omega)
  have := hx.cell p _ e 0 _ rfl
  simp only [kindAt, Int.toNat_natCast, e]
  exact this

set_option maxRecDepth 100000 in
set_option maxHeartbeats 40000000 in
theorem partsmay_c (b o n cap : Nat) (xs : List Nd) (hn : xs.length = n) (h1 : 1 ≤ n) (h2 : n ≤ 120) (hnd : ∀ (i : Nat) (x : Nd), xs[i]? = some x → isNd x = true) (hin : ∀ (i : Nat) (x : Nd), xs[i]? = some x → pIn n x) (r : Bool) (hr : r = true ↔ ∀ (i : Nat) (x : Nd), xs[i]? = some x → pOk xs x) (w : World) (hx : NodesAt w b o xs) :
    Calls Tryd.prog 30 #[.slice (some ⟨b, o, none⟩) n cap] w fun e w' => e = .returned (.bool r) ∧ Below w.heap.size w w' := by
  have HF : ∀ (k : Nat) (x : Nd), xs[k]? = some x → ¬ pOk xs x → r = false := fun k x hk h => by
    cases r
    · rfl
    · exact absurd (hr.1 rfl k x hk) h
  have HF := Lib.hid HF; have HN := Lib.hid hnd; have HI := Lib.hid hin; have HR := Lib.hid hr
  clear hnd hr hin
  go_enter Tryd.func30, Tryd.ntmps30
  go_wp2
  have lb := hx.lt
  go_loopw [9] (fun i wr => ∃ k : Nat, k ≤ n ∧ i = .int .i64 k ∧ (∀ (j : Nat) (x : Nd), j < k → xs[j]? = some x → pOk xs x) ∧ Below w.heap.size w wr) (fun i _ => n - (intOf i).toNat)
  case atStart =>
    exact ⟨0, by omega, rfl, fun j x hj => by omega, Below.refl _ _⟩
  case round =>
    obtain ⟨k, hk, rfl, hg, hB⟩ := hrel
    have HG := Lib.hid hg
    clear hg
    by_cases hlt : k < n
    · obtain ⟨x, hxk⟩ : ∃ x, xs[k]? = some x := ⟨xs[k]'(by omega), List.getElem?_eq_getElem (by omega)⟩
      have hxn := HN.out k x hxk
      have hxi := HI.out k x hxk
      have gl : pOk xs x → ∀ (j : Nat) (y : Nd), j < k + 1 → xs[j]? = some y → pOk xs y := fun h j y hj hy => by
        by_cases e : j = k
        · subst e; rw [hxk] at hy; cases hy; exact h
        · exact HG.out j y (by omega) hy
      have GL := Lib.hid gl
      have GF := Lib.hid (HF.out k x hxk)
      clear gl HG HF HN HI
      have hw := hx.below hB hx.lt
      have d := hw.cell k x hxk
      have KA := Lib.hid (fun p hp => kind_cell hw hn p hp)
      obtain ⟨kd, w0, w1, w2, w3, xa, xb, m, M, xn⟩ := x
      have hkd := isNd_kind hxn
      simp only at hkd
      have d0 : wr.cell? ⟨b, o + k * 10, none⟩ = some (.int .i64 kd) := d 0 _ rfl
      have d1 : wr.cell? ⟨b, o + k * 10 + 1, none⟩ = some (.int .u64 w0) := d 1 _ rfl
      have d2 : wr.cell? ⟨b, o + k * 10 + 2, none⟩ = some (.int .u64 w1) := d 2 _ rfl
      have d3 : wr.cell? ⟨b, o + k * 10 + 3, none⟩ = some (.int .u64 w2) := d 3 _ rfl
      have d4 : wr.cell? ⟨b, o + k * 10 + 4, none⟩ = some (.int .u64 w3) := d 4 _ rfl
      have d5 : wr.cell? ⟨b, o + k * 10 + 5, none⟩ = some (.int .i64 xa) := d 5 _ rfl
      have d6 : wr.cell? ⟨b, o + k * 10 + 6, none⟩ = some (.int .i64 xb) := d 6 _ rfl
      have d7 : wr.cell? ⟨b, o + k * 10 + 7, none⟩ = some (.int .i64 m) := d 7 _ rfl
      have d8 : wr.cell? ⟨b, o + k * 10 + 8, none⟩ = some (.int .i64 M) := d 8 _ rfl
      have d9 : wr.cell? ⟨b, o + k * 10 + 9, none⟩ = some (.int .i64 xn) := d 9 _ rfl
      clear d hw
      have lB := hB.size
      unfold pIn at hxi
      simp only at hxi
      obtain ⟨hi1, hi2⟩ := hxi
      rcases hkd with rfl | rfl | rfl | rfl | rfl | rfl | rfl | rfl | rfl
      · by_cases e : n = 1
        · subst e
          go_wp2
          go_roundw
          case rel => exact ⟨k + 1, by omega, by simp, GL.out (by simp [pOk, hn]), hB.alloc (by omega) _⟩
          case measure => (simp [intOf]) <;> omega
        · have z : ((n : Int) == 1) = false := by rw [beq_eq_false_iff_ne]; omega
          obtain rfl : r = false := GF.out (by simp [pOk, hn, e])
          go_wp2
          go_ret
          exact ⟨rfl, hB.alloc (by omega) _⟩
      · go_wp2
        go_roundw
        case rel => exact ⟨k + 1, by omega, by simp, GL.out (by simp [pOk]), hB.alloc (by omega) _⟩
        case measure => (simp [intOf]) <;> omega
      · go_wp2
        go_roundw
        case rel => exact ⟨k + 1, by omega, by simp, GL.out (by simp [pOk]), hB.alloc (by omega) _⟩
        case measure => (simp [intOf]) <;> omega
      · go_wp2
        go_roundw
        case rel => exact ⟨k + 1, by omega, by simp, GL.out (by simp [pOk]), hB.alloc (by omega) _⟩
        case measure => (simp [intOf]) <;> omega
      · obtain ⟨p, q, rfl, rfl, hp, hq⟩ := hi1 (by simp)
        have ca := KA.out p hp
        have cb := KA.out q hq
        obtain ⟨ya, hya⟩ : ∃ y, y = kindAt xs p := ⟨_, rfl⟩
        obtain ⟨yb, hyb⟩ : ∃ y, y = kindAt xs q := ⟨_, rfl⟩
        rw [← hya] at ca
        rw [← hyb] at cb
        have HYA := Lib.hid hya; have HYB := Lib.hid hyb
        clear hya hyb
        have ca := cell_alloc1 (.cells #[.int .i64 4, .int .u64 w0, .int .u64 w1, .int .u64 w2, .int .u64 w3, .int .i64 p, .int .i64 q, .int .i64 m, .int .i64 M, .int .i64 xn] 42) ca
        have cb := cell_alloc1 (.cells #[.int .i64 4, .int .u64 w0, .int .u64 w1, .int .u64 w2, .int .u64 w3, .int .i64 p, .int .i64 q, .int .i64 m, .int .i64 M, .int .i64 xn] 42) cb
        by_cases hz1 : ya = 4
        · subst hz1
          obtain rfl : r = false := GF.out (by simp [pOk, ← HYA.out])
          go_wp2
          go_ret
          exact ⟨rfl, hB.alloc (by omega) _⟩
        by_cases hz2 : ya = 5
        · subst hz2
          obtain rfl : r = false := GF.out (by simp [pOk, ← HYA.out])
          go_wp2
          go_ret
          exact ⟨rfl, hB.alloc (by omega) _⟩
        have z1 : (ya == 4) = false := by rw [beq_eq_false_iff_ne]; exact hz1
        have z2 : (ya == 5) = false := by rw [beq_eq_false_iff_ne]; exact hz2
        have y1 : (ya != 4) = true := by simpa using hz1
        have y2 : (ya != 5) = true := by simpa using hz2
        by_cases hz3 : yb = 5
        · subst hz3
          obtain rfl : r = false := GF.out (by simp [pOk, ← HYB.out])
          go_wp2
          go_ret
          exact ⟨rfl, hB.alloc (by omega) _⟩
        have y3 : (yb != 5) = true := by simpa using hz3
        go_wp2
        go_roundw
        case rel => exact ⟨k + 1, by omega, by simp, GL.out (by simp [pOk, ← HYA.out, ← HYB.out, hz1, hz2, hz3]), hB.alloc (by omega) _⟩
        case measure => (simp [intOf]) <;> omega
      · obtain ⟨p, q, rfl, rfl, hp, hq⟩ := hi1 (by simp)
        have ca := KA.out p hp
        have cb := KA.out q hq
        obtain ⟨ya, hya⟩ : ∃ y, y = kindAt xs p := ⟨_, rfl⟩
        obtain ⟨yb, hyb⟩ : ∃ y, y = kindAt xs q := ⟨_, rfl⟩
        rw [← hya] at ca
        rw [← hyb] at cb
        have HYA := Lib.hid hya; have HYB := Lib.hid hyb
        clear hya hyb
        have ca := cell_alloc1 (.cells #[.int .i64 5, .int .u64 w0, .int .u64 w1, .int .u64 w2, .int .u64 w3, .int .i64 p, .int .i64 q, .int .i64 m, .int .i64 M, .int .i64 xn] 42) ca
        have cb := cell_alloc1 (.cells #[.int .i64 5, .int .u64 w0, .int .u64 w1, .int .u64 w2, .int .u64 w3, .int .i64 p, .int .i64 q, .int .i64 m, .int .i64 M, .int .i64 xn] 42) cb
        by_cases hz2 : ya = 5
        · subst hz2
          obtain rfl : r = false := GF.out (by simp [pOk, ← HYA.out])
          go_wp2
          go_ret
          exact ⟨rfl, hB.alloc (by omega) _⟩
        have y2 : (ya != 5) = true := by simpa using hz2
        go_wp2
        go_roundw
        case rel => exact ⟨k + 1, by omega, by simp, GL.out (by simp [pOk, ← HYA.out, hz2]), hB.alloc (by omega) _⟩
        case measure => (simp [intOf]) <;> omega
      · obtain ⟨p, rfl, hp⟩ := hi2 (by simp)
        have ca := KA.out p hp
        obtain ⟨ya, hya⟩ : ∃ y, y = kindAt xs p := ⟨_, rfl⟩
        rw [← hya] at ca
        have HYA := Lib.hid hya
        clear hya
        have ca := cell_alloc1 (.cells #[.int .i64 6, .int .u64 w0, .int .u64 w1, .int .u64 w2, .int .u64 w3, .int .i64 p, .int .i64 xb, .int .i64 m, .int .i64 M, .int .i64 xn] 42) ca
        by_cases hz1 : ya = 1
        · subst hz1
          go_wp2
          go_roundw
          case rel => exact ⟨k + 1, by omega, by simp, GL.out (by simp [pOk, ← HYA.out]), hB.alloc (by omega) _⟩
          case measure => (simp [intOf]) <;> omega
        have z1 : (ya == 1) = false := by rw [beq_eq_false_iff_ne]; exact hz1
        by_cases hz7 : ya = 7
        · subst hz7
          go_wp2
          go_roundw
          case rel => exact ⟨k + 1, by omega, by simp, GL.out (by simp [pOk, ← HYA.out]), hB.alloc (by omega) _⟩
          case measure => (simp [intOf]) <;> omega
        have z7 : (ya == 7) = false := by rw [beq_eq_false_iff_ne]; exact hz7
        by_cases hz8 : ya = 8
        · subst hz8
          go_wp2
          go_roundw
          case rel => exact ⟨k + 1, by omega, by simp, GL.out (by simp [pOk, ← HYA.out]), hB.alloc (by omega) _⟩
          case measure => (simp [intOf]) <;> omega
        have z8 : (ya == 8) = false := by rw [beq_eq_false_iff_ne]; exact hz8
        obtain rfl : r = false := GF.out (by simp [pOk, ← HYA.out, hz1, hz7, hz8])
        go_wp2
        go_ret
        exact ⟨rfl, hB.alloc (by omega) _⟩
      · go_wp2
        go_roundw
        case rel => exact ⟨k + 1, by omega, by simp, GL.out (by simp [pOk]), hB.alloc (by omega) _⟩
        case measure => (simp [intOf]) <;> omega
      · go_wp2
        go_roundw
        case rel => exact ⟨k + 1, by omega, by simp, GL.out (by simp [pOk]), hB.alloc (by omega) _⟩
        case measure => (simp [intOf]) <;> omega
    · obtain rfl : k = n := by omega
      obtain rfl : r = true := HR.out.2 fun i x hi => HG.out i x (by have := (List.getElem?_eq_some_iff.1 hi).1; omega) hi
      go_wp2
      go_ret
      exact ⟨rfl, hB⟩

end Go.Proofs.YtfkidgbjjlgjdaaDoor
