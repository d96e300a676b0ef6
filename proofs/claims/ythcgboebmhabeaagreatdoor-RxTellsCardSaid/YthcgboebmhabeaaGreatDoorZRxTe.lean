/- Clone of a list of nodes. -/
import Derived.Test.YthcgboebmhabeaaGreatDoorZRxK
import Derived.Test.YthcgboebmhabeaaGreatDoorZSetZ
import Derived.Test.YthcgboebmhabeaaGreatDoorZRxU
namespace Go.Proofs.YthcgboebmhabeaaGreatDoor
open Go.RowKit
set_option linter.unusedVariables false
set_option linter.unusedSimpArgs false

theorem infoNd : (Tryz.prog.info? 42).map (fun i => (i.zero, i.size, i.bytes)) = some (some (.agg #[.int .i64 0, .int .u64 0, .int .u64 0, .int .u64 0, .int .u64 0, .int .i64 0, .int .i64 0, .int .i64 0, .int .i64 0, .int .i64 0]), 10, 80) := by kernel_rfl

/-- The cells of a list of nodes, one behind the other. -/
def flat (xs : List Nd) : List Value := xs.flatMap fun x => x.cells.toList
theorem flat_len : ∀ xs : List Nd, (flat xs).length = xs.length * 10
  | [] => rfl
  | x :: xs => by
    have := flat_len xs
    simp only [flat, List.flatMap_cons, List.length_append, List.length_cons] at *
    have h : x.cells.toList.length = 10 := rfl
    omega
theorem flat_at : ∀ (xs : List Nd) (j : Nat), j < xs.length * 10 → ∃ (i r : Nat) (x : Nd), xs[i]? = some x ∧ r < 10 ∧ j = i * 10 + r ∧ (flat xs)[j]? = x.cells[r]?
  | [], j, h => by simp at h
  | x :: xs, j, h => by
    have hl : x.cells.toList.length = 10 := rfl
    by_cases hj : j < 10
    · refine ⟨0, j, x, rfl, hj, by omega, ?_⟩
      simp only [flat, List.flatMap_cons]
      rw [List.getElem?_append_left (by omega)]
      simp
    · obtain ⟨i, r, y, h1, h2, h3, h4⟩ := flat_at xs (j - 10) (by simp only [List.length_cons] at h; omega)
      refine ⟨i + 1, r, y, h1, h2, by omega, ?_⟩
      simp only [flat, List.flatMap_cons] at h4 ⊢
      rw [List.getElem?_append_right (by omega), hl]
      exact h4
theorem flat_get (xs : List Nd) (i r : Nat) (x : Nd) (hx : xs[i]? = some x) (hr : r < 10) : (flat xs)[i * 10 + r]? = x.cells[r]? := by
  have hi : i < xs.length := (List.getElem?_eq_some_iff.1 hx).1
  obtain ⟨i', r', y, h1, h2, h3, h4⟩ := flat_at xs (i * 10 + r) (by omega)
  obtain rfl : i' = i := by omega
  obtain rfl : r' = r := by omega
  rw [hx] at h1
  cases h1
  exact h4

/-- A row of nodes of the call's own. -/
structure NRow (w : World) (g n : Nat) (xs : List Nd) : Prop where
  row : ∃ cur, w.heap[g]? = some (.cells cur 42 (0, 0)) ∧ ∀ (i r : Nat) (x : Nd), xs[i]? = some x → r < 10 → cur[i * 10 + r]? = x.cells[r]?

set_option maxRecDepth 100000 in
set_option maxHeartbeats 4000000 in
theorem clone_c (b o n cap : Nat) (xs : List Nd) (hlen : xs.length = n) (h1 : 1 ≤ n) (hn : n ≤ 120) (w : World) (hx : NodesAt w b o xs) :
    Calls Tryz.prog 32 #[.slice (some ⟨b, o, none⟩) n cap] w fun e w' => (∃ g cap', e = .returned (.slice (some ⟨g, 0, none⟩) n cap') ∧ w.heap.size ≤ g ∧ NRow w' g n xs) ∧ Below w.heap.size w w' := by
  obtain ⟨i0, hi, hz0, hz1, hz2⟩ := info_parts infoNd
  have hq : ∀ (w : World) (a : Option Addr) (n c n' c' : Nat), (binOp .eql 22 (.slice a n c) (.slice none n' c')).run Tryz.prog w = .ok (.bool a.isNone) w := fun w a n c n' c' => Lib.run_eql_slice_nil w _ _ a n c n' c' Tryz.underlying22
  have hfl := flat_len xs
  have hcell : ∀ j u, (flat xs)[j]? = some u → (w.alloc (.cells #[] 42)).cell? ((⟨b, o, none⟩ : Addr).add j) = some u := fun j u hj => by
    obtain ⟨i, r, x, e1, e2, e3, e4⟩ := flat_at xs j (by have := (List.getElem?_eq_some_iff.1 hj).1; omega)
    rw [e4] at hj
    rw [Addr.add_lit]
    refine cell_alloc1 _ ?_
    have := hx.cell i x e1 r u hj
    rw [e3, ← Nat.add_assoc]; exact this
  have hone : ∀ u ∈ flat xs, u.oneCell' = true := fun u hu => by
    simp only [flat, List.mem_flatMap] at hu
    obtain ⟨x, _, hx⟩ := hu
    simp [Nd.cells] at hx
    rcases hx with rfl | rfl | rfl | rfl | rfl | rfl | rfl | rfl | rfl | rfl <;> rfl
  go_enter Tryz.func32, Tryz.ntmps32
  go_wp2_with (at_builtin; refine wpList_append_own _ rfl _ _ 22 rfl w.heap.size 42 i0 (.agg #[.int .i64 0, .int .u64 0, .int .u64 0, .int .u64 0, .int .u64 0, .int .i64 0, .int .i64 0, .int .i64 0, .int .i64 0, .int .i64 0]) 10 80 Tryz.underlying22 hi hz0 hz1 hz2 rfl (by decide) _ _ _ rfl (World.ownsRow_made w #[] 0 (Nat.le_refl _) (Nat.zero_le _) (by simp)) ⟨b, o, none⟩ n cap (flat xs) rfl ?qc1 ?qc2 ?qc3 ?qc4 ?qc5 ?qc6 ?_)
  case qc1 => rw [hfl, hlen]
  case qc2 => exact hcell
  case qc3 => exact hone
  case qc4 => unfold maxLen; omega
  case qc5 => omega
  case qc6 => simp
  intro v' w1 hown hgrow hnil
  go_wp2
  go_ret
  have hB : Below w.heap.size w w1 := ((Below.refl _ w).alloc (Nat.le_refl _) _).grown hgrow (by simp) (by intro k hk; simp [Value.ownBlock] at hk; omega)
  refine ⟨?_, hB⟩
  rcases hown.2 with ⟨_, h0⟩ | ⟨g, cap', cur, rfl, hg, hb, _, _, _, ht⟩
  · omega
  · refine ⟨g, cap', rfl, hg, ⟨cur, hb, fun i r x hx hr => ?_⟩⟩
    rw [← flat_get xs i r x hx hr]
    have hi : i < xs.length := (List.getElem?_eq_some_iff.1 hx).1
    have : (cur.toList.take (n * 10))[i * 10 + r]? = (flat xs)[i * 10 + r]? := by rw [ht]
    rw [List.getElem?_take_of_lt (by omega)] at this
    rw [← this]
    simp

end Go.Proofs.YthcgboebmhabeaaGreatDoor

namespace Go.Proofs.YthcgboebmhabeaaGreatDoor
open Go.RowKit
set_option linter.unusedVariables false
set_option linter.unusedSimpArgs false

/-- A node with its set folded. -/
def foldNd (x : Nd) : Nd := { x with w0 := wd (foldF x.set) 0, w1 := wd (foldF x.set) 1, w2 := wd (foldF x.set) 2, w3 := wd (foldF x.set) 3 }

theorem set4_get (cur : Array Value) (j : Nat) (a0 a1 a2 a3 : Value) (h : j + 3 < cur.size) (m : Nat) :
    ((((cur.setIfInBounds j a0).setIfInBounds (j + 1) a1).setIfInBounds (j + 2) a2).setIfInBounds (j + 3) a3)[m]? = if m = j then some a0 else if m = j + 1 then some a1 else if m = j + 2 then some a2 else if m = j + 3 then some a3 else cur[m]? := by
  simp only [Array.getElem?_setIfInBounds, Array.size_setIfInBounds]
  by_cases e0 : m = j
  · subst e0
    rw [if_neg (by omega), if_neg (by omega), if_neg (by omega), if_pos rfl, if_pos (by omega), if_pos rfl]
  by_cases e1 : m = j + 1
  · subst e1
    rw [if_neg (by omega), if_neg (by omega), if_pos rfl, if_pos (by omega), if_neg (by omega), if_pos rfl]
  by_cases e2 : m = j + 2
  · subst e2
    rw [if_neg (by omega), if_pos rfl, if_pos (by omega), if_neg (by omega), if_neg (by omega), if_pos rfl]
  by_cases e3 : m = j + 3
  · subst e3
    rw [if_pos rfl, if_pos (by omega), if_neg (by omega), if_neg (by omega), if_neg (by omega), if_pos rfl]
  rw [if_neg (by omega), if_neg (by omega), if_neg (by omega), if_neg (by omega), if_neg e0, if_neg e1, if_neg e2, if_neg e3]

/-- The row behind k rounds. -/
def FRow (w : World) (g : Nat) (xs : List Nd) (k : Nat) : Prop :=
  ∃ cur, w.heap[g]? = some (.cells cur 42 (0, 0)) ∧ ∀ (i r : Nat) (x : Nd), xs[i]? = some x → r < 10 → cur[i * 10 + r]? = (if i < k then foldNd x else x).cells[r]?
theorem FRow.below {w w' : World} {g k : Nat} {xs : List Nd} (h : FRow w g xs k) (hB : Below w.heap.size w w') : FRow w' g xs k := by
  obtain ⟨cur, h1, h2⟩ := h
  exact ⟨cur, (hB.block g (Array.getElem?_eq_some_iff.1 h1).1).trans h1, h2⟩
theorem FRow.lt {w : World} {g k : Nat} {xs : List Nd} (h : FRow w g xs k) : g < w.heap.size := by
  obtain ⟨cur, h1, h2⟩ := h
  exact (Array.getElem?_eq_some_iff.1 h1).1
theorem FRow.cell {w : World} {g k : Nat} {xs : List Nd} (h : FRow w g xs k) (x : Nd) (hx : xs[k]? = some x) (r : Nat) (hr : r < 10) : w.cell? ⟨g, k * 10 + r, none⟩ = x.cells[r]? := by
  obtain ⟨cur, h1, h2⟩ := h
  rw [cell_of _ _ _ _ h1, h2 k r x hx hr, if_neg (by omega)]
theorem FRow.fz {w : World} {g k : Nat} {xs : List Nd} (h : FRow w g xs k) (j : Nat) : w.frozen? ⟨g, j, none⟩ = false := by
  obtain ⟨cur, h1, h2⟩ := h
  exact frozen_of _ _ _ _ h1 j
set_option maxHeartbeats 4000000 in
theorem FRow.step {w : World} {g k : Nat} {xs : List Nd} (h : FRow w g xs k) (x : Nd) (hx : xs[k]? = some x) :
    FRow ((((w.setCell ⟨g, k * 10 + 1, none⟩ (.int .u64 (wd (foldF x.set) 0))).setCell ⟨g, k * 10 + 2, none⟩ (.int .u64 (wd (foldF x.set) 1))).setCell ⟨g, k * 10 + 3, none⟩ (.int .u64 (wd (foldF x.set) 2))).setCell ⟨g, k * 10 + 4, none⟩ (.int .u64 (wd (foldF x.set) 3))) g xs (k + 1) := by
  obtain ⟨cur, h1, h2⟩ := h
  have a := heap_setCell_same _ g (k * 10 + 1) _ _ (.int .u64 (wd (foldF x.set) 0)) h1
  have b := heap_setCell_same _ g (k * 10 + 2) _ _ (.int .u64 (wd (foldF x.set) 1)) a
  have c := heap_setCell_same _ g (k * 10 + 3) _ _ (.int .u64 (wd (foldF x.set) 2)) b
  have d := heap_setCell_same _ g (k * 10 + 4) _ _ (.int .u64 (wd (foldF x.set) 3)) c
  refine ⟨_, d, fun i r y hy hr => ?_⟩
  have h9 := h2 k 9 x hx (by omega)
  rw [if_neg (by omega)] at h9
  have hsz : k * 10 + 9 < cur.size := by
    rcases Nat.lt_or_ge (k * 10 + 9) cur.size with q | q
    · exact q
    · rw [Array.getElem?_eq_none q] at h9; simp [Nd.cells] at h9
  rw [show k * 10 + 2 = k * 10 + 1 + 1 from rfl, show k * 10 + 3 = k * 10 + 1 + 2 from rfl, show k * 10 + 4 = k * 10 + 1 + 3 from rfl, set4_get cur (k * 10 + 1) _ _ _ _ (by omega)]
  by_cases e : i = k
  · subst e
    rw [hx] at hy; cases hy
    have e5 : (if i < i + 1 then foldNd x else x) = foldNd x := if_pos (by omega)
    rw [e5]
    have h2' := h2 i r x hx hr
    rw [if_neg (by omega)] at h2'
    rcases (by omega : r = 0 ∨ r = 1 ∨ r = 2 ∨ r = 3 ∨ r = 4 ∨ r = 5 ∨ r = 6 ∨ r = 7 ∨ r = 8 ∨ r = 9) with rfl | rfl | rfl | rfl | rfl | rfl | rfl | rfl | rfl | rfl
    · rw [if_neg (by omega), if_neg (by omega), if_neg (by omega), if_neg (by omega), h2']; simp [foldNd, Nd.cells]
    · rw [if_pos (by omega)]; simp [foldNd, Nd.cells]
    · rw [if_neg (by omega), if_pos (by omega)]; simp [foldNd, Nd.cells]
    · rw [if_neg (by omega), if_neg (by omega), if_pos (by omega)]; simp [foldNd, Nd.cells]
    · rw [if_neg (by omega), if_neg (by omega), if_neg (by omega), if_pos (by omega)]; simp [foldNd, Nd.cells]
    all_goals (rw [if_neg (by omega), if_neg (by omega), if_neg (by omega), if_neg (by omega), h2']; simp [foldNd, Nd.cells])
  · rw [if_neg (by omega), if_neg (by omega), if_neg (by omega), if_neg (by omega), h2 i r y hy hr]
    by_cases q : i < k
    · rw [if_pos q, if_pos (by omega)]
    · rw [if_neg q, if_neg (by omega)]

set_option maxRecDepth 100000 in
set_option maxHeartbeats 40000000 in
theorem fold_pat (b o n cap : Nat) (xs : List Nd) (hlen : xs.length = n) (h1 : 1 ≤ n) (hn : n ≤ 120) (hfit : ∀ (i : Nat) (x : Nd), xs[i]? = some x → x.Fits) (hp : ∃ t, IsPat xs t) (w : World) (hw : Fit w) (hx : NodesAt w b o xs) :
    Calls Tryz.prog 15 #[.slice (some ⟨b, o, none⟩) n cap] w fun e w' => (∃ g cap', e = .returned (.slice (some ⟨g, 0, none⟩) n cap') ∧ w.heap.size ≤ g ∧ FRow w' g xs n) ∧ Below w.heap.size w w' := by
  have HM := Lib.hid (may_in b o n cap xs hlen h1 hn hfit true ⟨fun _ => hp, fun _ => rfl⟩ w hx)
  have HC := Lib.hid fun w hx => clone_c b o n cap xs hlen h1 hn w hx
  have HFit := Lib.hid hfit
  clear hp hfit
  go_enter Tryz.func15, Tryz.ntmps15
  go_wp2_with fail
  refine HM.out.mono ?_
  rintro e W1 ⟨rfl, hB1⟩
  have hx1 := hx.below hB1 hx.lt
  go_wp2_with fail
  refine (HC.out _ hx1).mono ?_
  rintro e W2 ⟨⟨g, cap', rfl, hg, ⟨hrow⟩⟩, hB2⟩
  have b2 := hB1.trans (hB2.mono hB1.size)
  have hgw : w.heap.size ≤ g := Nat.le_trans hB1.size hg
  have hF0 : FRow W2 g xs 0 := by
    obtain ⟨cur, r1, r2⟩ := hrow
    exact ⟨cur, r1, fun i r x hx hr => by rw [r2 i r x hx hr, if_neg (by omega)]⟩
  clear HM HC hrow hx1 hB1 hB2
  go_wp2
  go_loopw [12] (fun i wr => ∃ k : Nat, k ≤ n ∧ i = .int .i64 k ∧ FRow wr g xs k ∧ Below w.heap.size w wr) (fun i _ => n - (RowKit.intOf i).toNat)
  case atStart => exact ⟨0, by omega, rfl, hF0, b2⟩
  case round =>
    clear hF0 b2
    obtain ⟨k, hk, rfl, hF, hB⟩ := hrel
    by_cases hlt : k < n
    · obtain ⟨x, hxk⟩ : ∃ x, xs[k]? = some x := ⟨xs[k]'(by omega), List.getElem?_eq_getElem (by omega)⟩
      have hfx := HFit.out k x hxk
      obtain ⟨a0, a1, a2, a3⟩ := ofWords_wd hfx.s0 hfx.s1 hfx.s2 hfx.s3
      have hsv : (sv x.set) = .agg #[.int .u64 x.w0, .int .u64 x.w1, .int .u64 x.w2, .int .u64 x.w3] := by
        unfold sv
        show Value.agg #[.int .u64 (wd (ofWords x.w0 x.w1 x.w2 x.w3) 0), .int .u64 (wd (ofWords x.w0 x.w1 x.w2 x.w3) 1), .int .u64 (wd (ofWords x.w0 x.w1 x.w2 x.w3) 2), .int .u64 (wd (ofWords x.w0 x.w1 x.w2 x.w3) 3)] = _
        rw [a0, a1, a2, a3]
      have c1 : wr.cell? ⟨g, k * 10 + 1, none⟩ = some (.int .u64 x.w0) := hF.cell x hxk 1 (by omega)
      have c2 : wr.cell? ⟨g, k * 10 + 2, none⟩ = some (.int .u64 x.w1) := hF.cell x hxk 2 (by omega)
      have c3 : wr.cell? ⟨g, k * 10 + 3, none⟩ = some (.int .u64 x.w2) := hF.cell x hxk 3 (by omega)
      have c4 : wr.cell? ⟨g, k * 10 + 4, none⟩ = some (.int .u64 x.w3) := hF.cell x hxk 4 (by omega)
      have HO := Lib.hid (fold_fit x.set wr (hw.below hB))
      rw [hsv] at HO
      clear hsv a0 a1 a2 a3
      go_wp2_with fail
      refine HO.out.mono ?_
      rintro e W3 ⟨rfl, hB3⟩
      have hF3 := hF.below hB3
      have hgl := hF3.lt
      have d1 : W3.cell? ⟨g, k * 10 + 1, none⟩ = some (.int .u64 x.w0) := hF3.cell x hxk 1 (by omega)
      have d2 : W3.cell? ⟨g, k * 10 + 2, none⟩ = some (.int .u64 x.w1) := hF3.cell x hxk 2 (by omega)
      have d3 : W3.cell? ⟨g, k * 10 + 3, none⟩ = some (.int .u64 x.w2) := hF3.cell x hxk 3 (by omega)
      have d4 : W3.cell? ⟨g, k * 10 + 4, none⟩ = some (.int .u64 x.w3) := hF3.cell x hxk 4 (by omega)
      have f1 := hF3.fz (k * 10 + 1)
      have f2 := hF3.fz (k * 10 + 2)
      have f3 := hF3.fz (k * 10 + 3)
      have f4 := hF3.fz (k * 10 + 4)
      have hF4 := hF3.step x hxk
      have hB4 := hB.trans (hB3.mono hB.size)
      clear c1 c2 c3 c4 HO HFit
      simp only [sv]
      go_wp2
      go_roundw
      case rel =>
        refine ⟨k + 1, by omega, by simp, hF4, Below.setCell (Below.setCell (Below.setCell (Below.setCell hB4 ?_ _) ?_ _) ?_ _) ?_ _⟩ <;> exact hgw
      case measure =>
        simp only [RowKit.intOf]
        omega
    · obtain rfl : k = n := by omega
      go_wp2
      go_ret
      exact ⟨⟨g, cap', rfl, hgw, hF⟩, hB⟩

end Go.Proofs.YthcgboebmhabeaaGreatDoor
