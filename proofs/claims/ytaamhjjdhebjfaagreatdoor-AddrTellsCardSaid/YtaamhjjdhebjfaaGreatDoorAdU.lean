/- Lines handed over; AddrNot: the walk. -/
import Derived.Test.YtaamhjjdhebjfaaGreatDoorAdP
import Derived.Test.YtaamhjjdhebjfaaGreatDoorAdS
namespace Go.Proofs.YtaamhjjdhebjfaaGreatDoor
open Go.RowKit Go.Lib
set_option linter.unusedVariables false
set_option linter.unusedSimpArgs false

structure Li where
  N : Int
  L : Bool
  p : Option Addr
  n : Nat
  c : Nat
  H : List Bool
/-- The lines ls lie there, to be read. -/
structure Lns (w : World) (p : Option Addr) (n cap : Nat) (ls : List Li) : Prop where
  len : ls.length = n
  le : n ≤ cap
  capm : cap ≤ maxLen
  ptr : 1 ≤ n → ∃ b o, p = some ⟨b, o, none⟩
  lt : 1 ≤ n → ∀ b o, p = some ⟨b, o, none⟩ → b < w.heap.size
  cell : ∀ b o, p = some ⟨b, o, none⟩ → ∀ (i : Nat) (x : Li), ls[i]? = some x → w.cell? ⟨b, o + i * 3, none⟩ = some (.int .i64 x.N) ∧ w.cell? ⟨b, o + i * 3 + 1, none⟩ = some (.bool x.L) ∧ w.cell? ⟨b, o + i * 3 + 2, none⟩ = some (.slice x.p x.n x.c)
  bls : ∀ (i : Nat) (x : Li), ls[i]? = some x → Bls w x.p x.n x.c x.H
theorem Lns.below {w w' : World} {p : Option Addr} {n cap B : Nat} {ls : List Li} (h : Lns w p n cap ls) (hB : Below B w w') (hb : w.heap.size ≤ B) : Lns w' p n cap ls :=
  ⟨h.len, h.le, h.capm, h.ptr, fun h1 b o e => Nat.lt_of_lt_of_le (h.lt h1 b o e) hB.size, fun b o e i x hx => by
    have h1 : 1 ≤ n := by have := (List.getElem?_eq_some_iff.1 hx).1; have := h.len; omega
    have := Nat.lt_of_lt_of_le (h.lt h1 b o e) hb
    rw [hB.cell (p := ⟨b, _, none⟩) this, hB.cell (p := ⟨b, _, none⟩) this, hB.cell (p := ⟨b, _, none⟩) this]
    exact h.cell b o e i x hx, fun i x hx => (h.bls i x hx).below hB hb⟩
theorem Lns.none_ (w : World) : Lns w none 0 0 [] := ⟨rfl, Nat.le_refl _, by unfold maxLen; omega, fun h => absurd h (by omega), fun h => absurd h (by omega), fun b o e => (by cases e), fun i x hx => (by simp at hx)⟩

theorem ask_bd {r : Rg} (hr : r.Nums) (s : Bool × Int) (N : Int) (L : Bool) (H : List Bool) (h0 : 0 ≤ N) (h9 : N ≤ 999999999) (s0 : 0 ≤ s.2) (s9 : s.2 ≤ 3000000000) : 0 ≤ (askA r s N L H).2.2 ∧ (askA r s N L H).2.2 ≤ 3000000000 := by
  have hg : ∀ s : Bool × Int, 0 ≤ s.2 → s.2 ≤ 3000000000 → 0 ≤ (goA r s N L H).2.2 ∧ (goA r s N L H).2.2 ≤ 3000000000 := by
    intro s s0 s9
    unfold goA
    split
    · exact ⟨by simp, by simp⟩
    · split
      · exact ⟨by simp, by simp⟩
      · exact ⟨s0, s9⟩
  have ho : ∀ (b : Bool) (t : Int), 0 ≤ t → t ≤ 3000000000 → 0 ≤ (opn b t).2 ∧ (opn b t).2 ≤ 3000000000 := by
    intro b t t0 t9
    unfold opn
    split
    · exact ⟨t0, t9⟩
    · exact ⟨by simp, by simp⟩
  have hb : 0 ≤ (begA r.b N L).2 ∧ (begA r.b N L).2 ≤ 3000000000 := by
    have b0 := hr.b0
    have b9 := hr.b9
    have hm := mulFrom_ge N r.b.n h0
    unfold begA
    split
    · exact ho _ _ (by omega) (by omega)
    split
    · exact ho _ _ (by omega) (by omega)
    split
    · exact ⟨by simp, by simp⟩
    split
    · exact ho _ _ (by omega) (by omega)
    split
    · refine ho _ _ (by omega) ?_
      by_cases hn : 0 < r.b.n
      · have := hm.2.1 hn; omega
      · have : mulFrom N r.b.n = N := if_pos (by omega)
        omega
    · exact ⟨by simp, by simp⟩
  unfold askA
  split
  · exact ⟨s0, s9⟩
  split
  · exact hg s s0 s9
  split
  · exact hg _ (by simp) (by simp)
  split
  · exact hb
  · exact ⟨s0, s9⟩

theorem keySt : Tryz.prog.keyTypeAt 2 44 = true := by kernel_rfl
theorem cellsSt : Tryz.prog.cellsOf 44 = 2 := by kernel_rfl
set_option maxRecDepth 100000 in
theorem eqSt (b : Bool) (t : Int) (h0 : 0 ≤ t) (h9 : t ≤ 3000000000) (w : World) : (Op.equalIn 10000 44 (.agg #[.bool b, .int .i64 t]) (.agg #[.bool b, .int .i64 t])).run Tryz.prog w = .ok true w := by
  have w1 := wf_i64 (x := t) (by omega)
  have hk : Tryz.prog.keyLits 4 44 [.bool b, .int .i64 t] = some [.bool b, .int .i64 t] := by
    simp [Program.keyLits, Tryz.underlying44, Tryz.underlying3, Tryz.underlying4, cellsSt, cellsI1, cellsB1, w1]
    try (intro i hi; rcases (by omega : i = 0 ∨ i = 1) with rfl | rfl <;> simp)
  have hf : (Value.agg #[.bool b, .int .i64 t]).formed Tryz.prog 44 = true := by
    simp [Value.formed, Tryz.underlying44, cellsSt]
  obtain ⟨x, hr, hiff⟩ := run_equalIn_deep 9998 2 _ keySt w 4 4 _ _ _ _ hf hf hk hk
  rw [hr, hiff.2 rfl]

end Go.Proofs.YtaamhjjdhebjfaaGreatDoor
