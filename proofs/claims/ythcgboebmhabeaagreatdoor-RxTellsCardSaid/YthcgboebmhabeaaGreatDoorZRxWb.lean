/- The reference's Groups, Refs. -/
import Derived.Test.YthcgboebmhabeaaGreatDoorZRxRl
import Derived.Test.YthcgboebmhabeaaGreatDoorZSetJ
namespace Go.Proofs.YthcgboebmhabeaaGreatDoor
open Go.RowKit
set_option linter.unusedVariables false
set_option linter.unusedSimpArgs false

set_option maxRecDepth 100000 in
set_option maxHeartbeats 4000000 in
theorem rgroups_c (p : Option Addr) (n cap : Nat) (xs : List Nd) (G : Nat) (hin : ∀ t, IsPat xs t → t.groups = G) (hout : (¬ ∃ t, IsPat xs t) → G = 0) (w : World) (h : Nodes w p n xs) :
    Calls Tryz.prog 9 #[.slice p n cap] w fun e w' => e = .returned (.int .i64 G) ∧ Below w.heap.size w w' := by
  have HL := Lib.hid (look_c p n cap xs w h)
  have HI := Lib.hid hin
  have HO := Lib.hid hout
  clear hin hout h
  go_enter Tryz.func9, Tryz.ntmps9
  go_wp2_with fail
  refine HL.out.mono ?_
  rintro e w1 ⟨⟨W, rfl, hW⟩, hB⟩
  have hq : (W.g = true ∧ W.k = G) ∨ (W.g = false ∧ G = 0) := by
    by_cases hp : ∃ t, IsPat xs t
    · obtain ⟨t, ht⟩ := hp
      exact .inl ⟨hW.g.2 ⟨t, ht⟩, (hW.k t ht).trans (HI.out t ht)⟩
    · refine .inr ⟨?_, HO.out hp⟩
      cases e : W.g with
      | false => rfl
      | true => exact absurd (hW.g.1 e) hp
  obtain ⟨g, k, en, r'⟩ := W
  simp only at hq
  simp only [Wk.cells]
  clear hW HL HI HO
  rcases hq with ⟨rfl, rfl⟩ | ⟨rfl, rfl⟩
  · go_wp2
    go_ret
    exact ⟨rfl, hB.alloc hB.size _⟩
  · go_wp2
    go_ret
    exact ⟨rfl, hB.alloc hB.size _⟩

set_option maxRecDepth 100000 in
set_option maxHeartbeats 4000000 in
theorem rrefs_c (p : Option Addr) (n cap : Nat) (xs : List Nd) (R : Bool) (hin : ∀ t, IsPat xs t → (R = true ↔ 0 < t.refs)) (hout : (¬ ∃ t, IsPat xs t) → R = false) (w : World) (h : Nodes w p n xs) :
    Calls Tryz.prog 11 #[.slice p n cap] w fun e w' => e = .returned (.bool R) ∧ Below w.heap.size w w' := by
  have HL := Lib.hid (look_c p n cap xs w h)
  have HI := Lib.hid hin
  have HO := Lib.hid hout
  clear hin hout h
  go_enter Tryz.func11, Tryz.ntmps11
  go_wp2_with fail
  refine HL.out.mono ?_
  rintro e w1 ⟨⟨W, rfl, hW⟩, hB⟩
  have hq : (W.g = true ∧ W.r = R) ∨ (W.g = false ∧ R = false) := by
    by_cases hp : ∃ t, IsPat xs t
    · obtain ⟨t, ht⟩ := hp
      exact .inl ⟨hW.g.2 ⟨t, ht⟩, by rw [Bool.eq_iff_iff, hW.r t ht, HI.out t ht]⟩
    · refine .inr ⟨?_, HO.out hp⟩
      cases e : W.g with
      | false => rfl
      | true => exact absurd (hW.g.1 e) hp
  obtain ⟨g, k, en, r'⟩ := W
  simp only at hq
  simp only [Wk.cells]
  clear hW HL HI HO
  rcases hq with ⟨rfl, rfl⟩ | ⟨rfl, rfl⟩
  · go_wp2
    go_ret
    exact ⟨rfl, hB.alloc hB.size _⟩
  · go_wp2
    go_ret
    exact ⟨rfl, hB.alloc hB.size _⟩

end Go.Proofs.YthcgboebmhabeaaGreatDoor

namespace Go.Proofs.YthcgboebmhabeaaGreatDoor
open Go.RowKit
set_option linter.unusedVariables false
set_option linter.unusedSimpArgs false

/-- The row behind k rounds. -/
def GRow (w : World) (g : Nat) (xs : List Nd) (k : Nat) : Prop :=
  ∃ cur, w.heap[g]? = some (.cells cur 45 (0, 0)) ∧ ∀ (i r : Nat) (x : Nd), xs[i]? = some x → r < 10 → cur[i * 10 + r]? = (if i < k then foldNd x else x).cells[r]?
theorem GRow.below {w w' : World} {g k : Nat} {xs : List Nd} (h : GRow w g xs k) (hB : Below w.heap.size w w') : GRow w' g xs k := by
  obtain ⟨cur, h1, h2⟩ := h
  exact ⟨cur, (hB.block g (Array.getElem?_eq_some_iff.1 h1).1).trans h1, h2⟩
theorem GRow.lt {w : World} {g k : Nat} {xs : List Nd} (h : GRow w g xs k) : g < w.heap.size := by
  obtain ⟨cur, h1, h2⟩ := h
  exact (Array.getElem?_eq_some_iff.1 h1).1
theorem GRow.cell {w : World} {g k : Nat} {xs : List Nd} (h : GRow w g xs k) (x : Nd) (hx : xs[k]? = some x) (r : Nat) (hr : r < 10) : w.cell? ⟨g, k * 10 + r, none⟩ = x.cells[r]? := by
  obtain ⟨cur, h1, h2⟩ := h
  rw [cell_of _ _ _ _ h1, h2 k r x hx hr, if_neg (by omega)]
theorem GRow.fz {w : World} {g k : Nat} {xs : List Nd} (h : GRow w g xs k) (j : Nat) : w.frozen? ⟨g, j, none⟩ = false := by
  obtain ⟨cur, h1, h2⟩ := h
  exact frozen_of _ _ _ _ h1 j
set_option maxHeartbeats 4000000 in
theorem GRow.step {w : World} {g k : Nat} {xs : List Nd} (h : GRow w g xs k) (x : Nd) (hx : xs[k]? = some x) :
    GRow ((((w.setCell ⟨g, k * 10 + 1, none⟩ (.int .u64 (wd (foldF x.set) 0))).setCell ⟨g, k * 10 + 2, none⟩ (.int .u64 (wd (foldF x.set) 1))).setCell ⟨g, k * 10 + 3, none⟩ (.int .u64 (wd (foldF x.set) 2))).setCell ⟨g, k * 10 + 4, none⟩ (.int .u64 (wd (foldF x.set) 3))) g xs (k + 1) := by
  obtain ⟨cur, h1, h2⟩ := h
  have a := heap_setCell_same _ g (k * 10 + 1) _ _ (.int .u64 (wd (foldF x.set) 0)) h1
  have b := heap_setCell_same _ g (k * 10 + 2) _ _ (.int .u64 (wd (foldF x.set) 1)) a
  have c := heap_setCell_same _ g (k * 10 + 3) _ _ (.int .u64 (wd (foldF x.set) 2)) b
  have d := heap_setCell_same _ g (k * 10 + 4) _ _ (.int .u64 (wd (foldF x.set) 3)) c
  refine ⟨_, d, fun i r y hy hr => ?_⟩
  have h9 := h2 k 9 x hx (by omega)
  rw [if_neg (by omega)] at h9
  have hsz : k * 10 + 9 < cur.size := by
    rcases Nat.lt_or_ge (k * 10 + 9) cur.size with q | q
    · exact q
    · rw [Array.getElem?_eq_none q] at h9; simp [Nd.cells] at h9
  rw [show k * 10 + 2 = k * 10 + 1 + 1 from rfl, show k * 10 + 3 = k * 10 + 1 + 2 from rfl, show k * 10 + 4 = k * 10 + 1 + 3 from rfl, set4_get cur (k * 10 + 1) _ _ _ _ (by omega)]
  by_cases e : i = k
  · subst e
    rw [hx] at hy; cases hy
    have e5 : (if i < i + 1 then foldNd x else x) = foldNd x := if_pos (by omega)
    rw [e5]
    have h2' := h2 i r x hx hr
    rw [if_neg (by omega)] at h2'
    rcases (by omega : r = 0 ∨ r = 1 ∨ r = 2 ∨ r = 3 ∨ r = 4 ∨ r = 5 ∨ r = 6 ∨ r = 7 ∨ r = 8 ∨ r = 9) with rfl | rfl | rfl | rfl | rfl | rfl | rfl | rfl | rfl | rfl
    · rw [if_neg (by omega), if_neg (by omega), if_neg (by omega), if_neg (by omega), h2']; simp [foldNd, Nd.cells]
    · rw [if_pos (by omega)]; simp [foldNd, Nd.cells]
    · rw [if_neg (by omega), if_pos (by omega)]; simp [foldNd, Nd.cells]
    · rw [if_neg (by omega), if_neg (by omega), if_pos (by omega)]; simp [foldNd, Nd.cells]
    · rw [if_neg (by omega), if_neg (by omega), if_neg (by omega), if_pos (by omega)]; simp [foldNd, Nd.cells]
    all_goals (rw [if_neg (by omega), if_neg (by omega), if_neg (by omega), if_neg (by omega), h2']; simp [foldNd, Nd.cells])
  · rw [if_neg (by omega), if_neg (by omega), if_neg (by omega), if_neg (by omega), h2 i r y hy hr]
    by_cases q : i < k
    · rw [if_pos q, if_pos (by omega)]
    · rw [if_neg q, if_neg (by omega)]

theorem GRow.at {w : World} {g n : Nat} {xs : List Nd} (h : GRow w g xs n) (hlen : xs.length = n) : NodesAt w g 0 (xs.map foldNd) := by
  obtain ⟨cur, h1, h2⟩ := h
  refine ⟨(Array.getElem?_eq_some_iff.1 h1).1, fun i x hx j v hv => ?_⟩
  rw [List.getElem?_map, Option.map_eq_some_iff] at hx
  obtain ⟨y, hy, rfl⟩ := hx
  have hi : i < n := by
    have := (List.getElem?_eq_some_iff.1 hy).1
    omega
  have hj : j < 10 := by
    have := (Array.getElem?_eq_some_iff.1 hv).1
    simpa [Nd.cells] using this
  rw [cell_of _ _ _ _ h1, Nat.zero_add, h2 i j y hy hj, if_pos hi]
  exact hv


set_option maxRecDepth 100000 in
set_option maxHeartbeats 40000000 in
theorem rfold_pat (b o n cap : Nat) (xs : List Nd) (hlen : xs.length = n) (h1 : 1 ≤ n) (hn : n ≤ 120) (hfit : ∀ (i : Nat) (x : Nd), xs[i]? = some x → x.Fits) (hp : ∃ t, IsPat xs t) (w : World) (hx : NodesAt w b o xs) :
    Calls Tryz.prog 16 #[.slice (some ⟨b, o, none⟩) n cap] w fun e w' => (∃ g cap', e = .returned (.slice (some ⟨g, 0, none⟩) n cap') ∧ w.heap.size ≤ g ∧ GRow w' g xs n) ∧ Below w.heap.size w w' := by
  have HM := Lib.hid (rmay_c (some ⟨b, o, none⟩) n cap xs true ⟨fun _ => hp, fun _ => rfl⟩ w (nodes_of_at hlen (by omega) hfit hx))
  obtain ⟨i0, hi, hz0, hz1, hz2⟩ := info_parts infoRn
  have HT := Lib.hid fun F w => told0_c F w
  have HF0 := Lib.hid fun F w => rfold_c F w
  have HW := Lib.hid fun F w => words_c F w
  unfold bv at HT HF0 HW
  have hfl := flat_len xs
  have hone : ∀ u ∈ flat xs, u.oneCell' = true := fun u hu => by
    simp only [flat, List.mem_flatMap] at hu
    obtain ⟨x, _, hx⟩ := hu
    simp [Nd.cells] at hx
    rcases hx with rfl | rfl | rfl | rfl | rfl | rfl | rfl | rfl | rfl | rfl <;> rfl
  have HFit := Lib.hid hfit
  clear hp hfit
  go_enter Tryz.func16, Tryz.ntmps16
  go_wp2_with fail
  refine HM.out.mono ?_
  rintro e W1 ⟨rfl, hB1⟩
  have hx1 := hx.below hB1 hx.lt
  have hcell : ∀ j u, (flat xs)[j]? = some u → (W1.alloc (.cells #[] 45)).cell? ((⟨b, o, none⟩ : Addr).add j) = some u := fun j u hj => by
    obtain ⟨i, r, x, e1, e2, e3, e4⟩ := flat_at xs j (by have := (List.getElem?_eq_some_iff.1 hj).1; omega)
    rw [e4] at hj
    rw [Addr.add_lit]
    refine cell_alloc1 _ ?_
    have := hx1.cell i x e1 r u hj
    rw [e3, ← Nat.add_assoc]; exact this
  go_wp2_with (at_builtin; refine wpList_append_own _ rfl _ _ 24 rfl W1.heap.size 45 i0 (.agg #[.int .i64 0, .int .u64 0, .int .u64 0, .int .u64 0, .int .u64 0, .int .i64 0, .int .i64 0, .int .i64 0, .int .i64 0, .int .i64 0]) 10 80 Tryz.underlying24 hi hz0 hz1 hz2 rfl (by decide) _ _ _ rfl (World.ownsRow_made W1 #[] 0 (Nat.le_refl _) (Nat.zero_le _) (by simp)) ⟨b, o, none⟩ n cap (flat xs) rfl ?qc1 ?qc2 ?qc3 ?qc4 ?qc5 ?qc6 ?_)
  case qc1 => rw [hfl, hlen]
  case qc2 => exact hcell
  case qc3 => exact hone
  case qc4 => unfold maxLen; omega
  case qc5 => omega
  case qc6 => simp
  intro v' W2 hown hgrow hnil
  have hB2 : Below W1.heap.size W1 W2 := ((Below.refl _ W1).alloc (Nat.le_refl _) _).grown hgrow (by simp) (by intro k hk; simp [Value.ownBlock] at hk; omega)
  have b2 := hB1.trans (hB2.mono hB1.size)
  have hrow : ∃ g cap', v' = .slice (some ⟨g, 0, none⟩) n cap' ∧ w.heap.size ≤ g ∧ GRow W2 g xs 0 := by
    rcases hown.2 with ⟨_, h0⟩ | ⟨g, cap', cur, e0, hg, hb, _, _, _, ht⟩
    · omega
    · refine ⟨g, cap', by first | exact e0 | simpa using e0, Nat.le_trans hB1.size hg, cur, hb, fun i r x hx hr => ?_⟩
      rw [if_neg (by omega), ← flat_get xs i r x hx hr]
      have hi : i < xs.length := (List.getElem?_eq_some_iff.1 hx).1
      have : (cur.toList.take (n * 10))[i * 10 + r]? = (flat xs)[i * 10 + r]? := by simpa using congrArg (fun l : List Value => l[i * 10 + r]?) ht
      rw [List.getElem?_take_of_lt (by omega)] at this
      rw [← this]
      simp
  obtain ⟨g, cap', rfl, hgw, hF0⟩ := hrow
  clear HM hcell hone hown hgrow hnil hx1 hB1 hB2
  go_wp2
  go_loopw [4] (fun i wr => ∃ k : Nat, k ≤ n ∧ i = .int .i64 k ∧ GRow wr g xs k ∧ Below w.heap.size w wr) (fun i _ => n - (RowKit.intOf i).toNat)
  case atStart => exact ⟨0, by omega, rfl, hF0, b2⟩
  case round =>
    clear hF0 b2
    obtain ⟨k, hk, rfl, hF, hB⟩ := hrel
    by_cases hlt : k < n
    · obtain ⟨x, hxk⟩ : ∃ x, xs[k]? = some x := ⟨xs[k]'(by omega), List.getElem?_eq_getElem (by omega)⟩
      have hfx := HFit.out k x hxk
      obtain ⟨a0, a1, a2, a3⟩ := ofWords_wd hfx.s0 hfx.s1 hfx.s2 hfx.s3
      have hsv : (sv x.set) = .agg #[.int .u64 x.w0, .int .u64 x.w1, .int .u64 x.w2, .int .u64 x.w3] := by
        unfold sv
        show Value.agg #[.int .u64 (wd (ofWords x.w0 x.w1 x.w2 x.w3) 0), .int .u64 (wd (ofWords x.w0 x.w1 x.w2 x.w3) 1), .int .u64 (wd (ofWords x.w0 x.w1 x.w2 x.w3) 2), .int .u64 (wd (ofWords x.w0 x.w1 x.w2 x.w3) 3)] = _
        rw [a0, a1, a2, a3]
      have c1 : wr.cell? ⟨g, k * 10 + 1, none⟩ = some (.int .u64 x.w0) := hF.cell x hxk 1 (by omega)
      have c2 : wr.cell? ⟨g, k * 10 + 2, none⟩ = some (.int .u64 x.w1) := hF.cell x hxk 2 (by omega)
      have c3 : wr.cell? ⟨g, k * 10 + 3, none⟩ = some (.int .u64 x.w2) := hF.cell x hxk 3 (by omega)
      have c4 : wr.cell? ⟨g, k * 10 + 4, none⟩ = some (.int .u64 x.w3) := hF.cell x hxk 4 (by omega)
      have HO := Lib.hid (HT.out x.set wr)
      rw [hsv] at HO
      clear hsv a0 a1 a2 a3
      go_wp2_with fail
      refine HO.out.mono ?_
      rintro e W3a ⟨rfl, hB3a⟩
      go_wp2_with fail
      refine (HF0.out x.set W3a).mono ?_
      rintro e W3b ⟨rfl, hB3b⟩
      go_wp2_with fail
      refine (HW.out (foldF x.set) W3b).mono ?_
      rintro e W3 ⟨rfl, hB3c⟩
      have hB3ab := hB3a.trans (hB3b.mono hB3a.size)
      have hB3 := hB3ab.trans (hB3c.mono hB3ab.size)
      have hF3 := hF.below hB3
      have hgl := hF3.lt
      have d1 : W3.cell? ⟨g, k * 10 + 1, none⟩ = some (.int .u64 x.w0) := hF3.cell x hxk 1 (by omega)
      have d2 : W3.cell? ⟨g, k * 10 + 2, none⟩ = some (.int .u64 x.w1) := hF3.cell x hxk 2 (by omega)
      have d3 : W3.cell? ⟨g, k * 10 + 3, none⟩ = some (.int .u64 x.w2) := hF3.cell x hxk 3 (by omega)
      have d4 : W3.cell? ⟨g, k * 10 + 4, none⟩ = some (.int .u64 x.w3) := hF3.cell x hxk 4 (by omega)
      have f1 := hF3.fz (k * 10 + 1)
      have f2 := hF3.fz (k * 10 + 2)
      have f3 := hF3.fz (k * 10 + 3)
      have f4 := hF3.fz (k * 10 + 4)
      have hF4 := hF3.step x hxk
      have hB4 := hB.trans (hB3.mono hB.size)
      clear c1 c2 c3 c4 HO HFit HT HF0 HW hB3a hB3b hB3c hB3ab
      simp only [sv]
      go_wp2
      go_roundw
      case rel =>
        refine ⟨k + 1, by omega, by simp, hF4, Below.setCell (Below.setCell (Below.setCell (Below.setCell hB4 ?_ _) ?_ _) ?_ _) ?_ _⟩ <;> exact hgw
      case measure =>
        simp only [RowKit.intOf]
        omega
    · obtain rfl : k = n := by omega
      go_wp2
      go_ret
      exact ⟨⟨g, cap', rfl, hgw, hF⟩, hB⟩

set_option maxRecDepth 100000 in
set_option maxHeartbeats 4000000 in
theorem rfold_out (p : Option Addr) (n cap : Nat) (xs : List Nd) (hp : ¬ ∃ t, IsPat xs t) (w : World) (h : Nodes w p n xs) :
    Calls Tryz.prog 16 #[.slice p n cap] w fun e w' => e = .returned (.slice none 0 0) ∧ Below w.heap.size w w' := by
  have HM := Lib.hid (rmay_c p n cap xs false ⟨fun h => absurd h (by decide), fun h => absurd h hp⟩ w h)
  clear hp h
  go_enter Tryz.func16, Tryz.ntmps16
  go_wp2_with fail
  refine HM.out.mono ?_
  rintro e w1 ⟨rfl, hB1⟩
  go_wp2
  go_ret
  exact ⟨rfl, hB1⟩

set_option maxRecDepth 100000 in
set_option maxHeartbeats 4000000 in
theorem fold_out (p : Option Addr) (n cap : Nat) (xs : List Nd) (hp : ¬ ∃ t, IsPat xs t) (w : World) (h : Nodes w p n xs) :
    Calls Tryz.prog 15 #[.slice p n cap] w fun e w' => e = .returned (.slice none 0 0) ∧ Below w.heap.size w w' := by
  have HM := Lib.hid (may_n p n cap xs false ⟨fun h => absurd h (by decide), fun h => absurd h hp⟩ w h)
  clear hp h
  go_enter Tryz.func15, Tryz.ntmps15
  go_wp2_with (go_at_call 6; refine HM.out.mono ?_; rintro e w1 ⟨rfl, hB1⟩)
  go_ret
  exact ⟨rfl, hB1⟩

end Go.Proofs.YthcgboebmhabeaaGreatDoor
