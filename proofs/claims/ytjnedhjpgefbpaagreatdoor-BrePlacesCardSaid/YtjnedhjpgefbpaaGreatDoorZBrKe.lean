/- slices.Equal of nodes: the walk. -/
import Derived.Test.YtjnedhjpgefbpaaGreatDoorZRxK
import Derived.Test.YtjnedhjpgefbpaaGreatDoorZBrL
import Derived.BigQuiet
namespace Go.Proofs.YtjnedhjpgefbpaaGreatDoor
open Go.RowKit
set_option linter.unusedVariables false
set_option linter.unusedSimpArgs false

set_option maxRecDepth 100000 in
set_option maxHeartbeats 40000000 in
theorem equal_in (b o cap b' o' cap' n : Nat) (xs ys : List Nd) (hlx : xs.length = n) (hly : ys.length = n) (hn : n ≤ 1000) (hfx : ∀ (i : Nat) (x : Nd), xs[i]? = some x → x.Fits) (hfy : ∀ (i : Nat) (x : Nd), ys[i]? = some x → x.Fits) (w : World) (hx : NodesAt w b o xs) (hy : NodesAt w b' o' ys) :
    Calls Tryz.prog 13 #[.slice (some ⟨b, o, none⟩) n cap, .slice (some ⟨b', o', none⟩) n cap'] w fun e w' => e = .returned (.bool (decide (xs = ys))) ∧ Below w.heap.size w w' := by
  have HFX := Lib.hid hfx
  have HFY := Lib.hid hfy
  obtain ⟨r, hr⟩ : ∃ r, r = decide (xs = ys) := ⟨_, rfl⟩
  rw [← hr]
  have HR := Lib.hid hr
  clear hfx hfy hr
  go_enter Tryz.func13, Tryz.ntmps13
  go_wp2
  go_loopw [13] (fun i wr => ∃ k : Nat, k ≤ n ∧ i = .int .i64 k ∧ (∀ j, j < k → xs[j]? = ys[j]?) ∧ Below w.heap.size w wr) (fun i _ => n - (RowKit.intOf i).toNat)
  case atStart => exact ⟨0, by omega, rfl, fun j hj => absurd hj (by omega), Below.refl _ _⟩
  case round =>
    obtain ⟨k, hk, rfl, hg, hB⟩ := hrel
    by_cases hlt : k < n
    · obtain ⟨x, hxk⟩ : ∃ x, xs[k]? = some x := ⟨xs[k]'(by omega), List.getElem?_eq_getElem (by omega)⟩
      obtain ⟨y, hyk⟩ : ∃ x, ys[k]? = some x := ⟨ys[k]'(by omega), List.getElem?_eq_getElem (by omega)⟩
      have hq := fun W => eq_nd x y (HFX.out k x hxk) (HFY.out k y hyk) W
      have hgl : x = y → ∀ j, j < k + 1 → xs[j]? = ys[j]? := fun e j hj => by
        by_cases e2 : j = k
        · subst e2; rw [hxk, hyk, e]
        · exact hg j (by omega)
      have hgf : x ≠ y → r = false := fun e => by
        rw [HR.out, decide_eq_false_iff_not]
        intro e2
        rw [e2, hyk] at hxk
        exact e (Option.some.inj hxk).symm
      have d := (hx.below hB hx.lt).cell k x hxk
      have e := (hy.below hB hy.lt).cell k y hyk
      have lB := hB.size
      obtain ⟨kd, w0, w1, w2, w3, xa, xb, m, M, xn⟩ := x
      obtain ⟨kd', w0', w1', w2', w3', xa', xb', m', M', xn'⟩ := y
      have d0 : wr.cell? ⟨b, o + k * 10, none⟩ = some (.int .i64 kd) := d 0 _ rfl
      have d1 : wr.cell? ⟨b, o + k * 10 + 1, none⟩ = some (.int .u64 w0) := d 1 _ rfl
      have d2 : wr.cell? ⟨b, o + k * 10 + 2, none⟩ = some (.int .u64 w1) := d 2 _ rfl
      have d3 : wr.cell? ⟨b, o + k * 10 + 3, none⟩ = some (.int .u64 w2) := d 3 _ rfl
      have d4 : wr.cell? ⟨b, o + k * 10 + 4, none⟩ = some (.int .u64 w3) := d 4 _ rfl
      have d5 : wr.cell? ⟨b, o + k * 10 + 5, none⟩ = some (.int .i64 xa) := d 5 _ rfl
      have d6 : wr.cell? ⟨b, o + k * 10 + 6, none⟩ = some (.int .i64 xb) := d 6 _ rfl
      have d7 : wr.cell? ⟨b, o + k * 10 + 7, none⟩ = some (.int .i64 m) := d 7 _ rfl
      have d8 : wr.cell? ⟨b, o + k * 10 + 8, none⟩ = some (.int .i64 M) := d 8 _ rfl
      have d9 : wr.cell? ⟨b, o + k * 10 + 9, none⟩ = some (.int .i64 xn) := d 9 _ rfl
      have e0 : wr.cell? ⟨b', o' + k * 10, none⟩ = some (.int .i64 kd') := e 0 _ rfl
      have e1 : wr.cell? ⟨b', o' + k * 10 + 1, none⟩ = some (.int .u64 w0') := e 1 _ rfl
      have e2 : wr.cell? ⟨b', o' + k * 10 + 2, none⟩ = some (.int .u64 w1') := e 2 _ rfl
      have e3 : wr.cell? ⟨b', o' + k * 10 + 3, none⟩ = some (.int .u64 w2') := e 3 _ rfl
      have e4 : wr.cell? ⟨b', o' + k * 10 + 4, none⟩ = some (.int .u64 w3') := e 4 _ rfl
      have e5 : wr.cell? ⟨b', o' + k * 10 + 5, none⟩ = some (.int .i64 xa') := e 5 _ rfl
      have e6 : wr.cell? ⟨b', o' + k * 10 + 6, none⟩ = some (.int .i64 xb') := e 6 _ rfl
      have e7 : wr.cell? ⟨b', o' + k * 10 + 7, none⟩ = some (.int .i64 m') := e 7 _ rfl
      have e8 : wr.cell? ⟨b', o' + k * 10 + 8, none⟩ = some (.int .i64 M') := e 8 _ rfl
      have e9 : wr.cell? ⟨b', o' + k * 10 + 9, none⟩ = some (.int .i64 xn') := e 9 _ rfl
      clear d e hxk hyk hg
      unfold Nd.v Nd.cells at hq
      dsimp only at hq
      have HGL := Lib.hid hgl
      have HGF := Lib.hid hgf
      clear hgl hgf HR HFX HFY
      by_cases hxy : (⟨kd, w0, w1, w2, w3, xa, xb, m, M, xn⟩ : Nd) = ⟨kd', w0', w1', w2', w3', xa', xb', m', M', xn'⟩
      · rw [decide_eq_true hxy] at hq
        have HG := Lib.hid (HGL.out hxy)
        clear hxy HGL HGF
        go_wp2_with fail
        go_quiet (fail)
        go_wp2
        go_roundw
        case rel => exact ⟨k + 1, by omega, by simp, HG.out, below_drewN hB _⟩
        case measure => (simp [RowKit.intOf]) <;> omega
      · rw [decide_eq_false hxy] at hq
        obtain rfl := HGF.out hxy
        clear hxy HGL HGF
        go_wp2_with fail
        go_quiet (fail)
        go_wp2
        go_ret
        exact ⟨rfl, below_drewN hB _⟩
    · obtain rfl : k = n := by omega
      obtain rfl : r = true := by
        rw [HR.out, decide_eq_true_iff]
        apply List.ext_getElem?
        intro i
        rcases Nat.lt_or_ge i k with h | h
        · exact hg i h
        · rw [List.getElem?_eq_none (by omega), List.getElem?_eq_none (by omega)]
      clear HR HFX HFY hg
      go_wp2
      go_ret
      exact ⟨rfl, hB⟩

set_option maxRecDepth 100000 in
set_option maxHeartbeats 4000000 in
theorem equal_out (p q : Option Addr) (n m cap cap' : Nat) (hne : n ≠ m) (hn : n < 9223372036854775807) (hm : m < 9223372036854775807) (w : World) :
    Calls Tryz.prog 13 #[.slice p n cap, .slice q m cap'] w fun e w' => e = .returned (.bool false) ∧ Below w.heap.size w w' := by
  have h1 : ((n : Int) == (m : Int)) = false := by rw [beq_eq_false_iff_ne]; omega
  have h2 : ((n : Int) != (m : Int)) = true := by rw [bne_iff_ne]; omega
  clear hne
  go_enter Tryz.func13, Tryz.ntmps13
  go_wp2
  go_ret
  exact ⟨rfl, Below.refl _ _⟩

set_option maxRecDepth 100000 in
set_option maxHeartbeats 4000000 in
theorem equal_nil (p q : Option Addr) (cap cap' : Nat) (w : World) :
    Calls Tryz.prog 13 #[.slice p 0 cap, .slice q 0 cap'] w fun e w' => e = .returned (.bool true) ∧ Below w.heap.size w w' := by
  go_enter Tryz.func13, Tryz.ntmps13
  go_wp2
  go_loopw [13] (fun i wr => i = .int .i64 0 ∧ Below w.heap.size w wr) (fun i _ => 0)
  case atStart => exact ⟨rfl, Below.refl _ _⟩
  case round =>
    obtain ⟨rfl, hB⟩ := hrel
    go_wp2
    go_ret
    exact ⟨rfl, hB⟩

/-- **slices.Equal of two rows of nodes.** -/
theorem equal_c (p q : Option Addr) (n m cap cap' : Nat) (xs ys : List Nd) (hn : n ≤ 1000) (w : World) (hx : Nodes w p n xs) (hy : Nodes w q m ys) :
    Calls Tryz.prog 13 #[.slice p n cap, .slice q m cap'] w fun e w' => e = .returned (.bool (decide (xs = ys))) ∧ Below w.heap.size w w' := by
  by_cases hnm : n = m
  · subst hnm
    by_cases h1 : 1 ≤ n
    · obtain ⟨b, o, rfl⟩ := hx.ptr h1
      obtain ⟨b', o', rfl⟩ := hy.ptr h1
      exact equal_in b o cap b' o' cap' n xs ys hx.len hy.len hn hx.fits hy.fits w (hx.at' h1 b o rfl) (hy.at' h1 b' o' rfl)
    · obtain rfl : n = 0 := by omega
      have e1 := List.eq_nil_of_length_eq_zero hx.len
      have e2 := List.eq_nil_of_length_eq_zero hy.len
      subst e1; subst e2
      exact equal_nil p q cap cap' w
  · have hne : xs ≠ ys := fun e => hnm (by rw [← hx.len, ← hy.len, e])
    rw [decide_eq_false hne]
    exact equal_out p q n m cap cap' hnm hx.small hy.small w

end Go.Proofs.YtjnedhjpgefbpaaGreatDoor
