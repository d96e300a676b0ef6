/- The reference's Hits; AddrHits: the walk. -/
import Derived.Test.YtaamhjjdhebjfaaGreatDoorAdO
namespace Go.Proofs.YtaamhjjdhebjfaaGreatDoor
open Go.RowKit Go.Lib
set_option linter.unusedVariables false
set_option linter.unusedSimpArgs false

set_option maxRecDepth 100000 in
set_option maxHeartbeats 8000000 in
theorem its_c (a : Ad) (w : World) : Calls Tryz.prog 18 #[adv a] w fun e w' => e = .returned (adv a) ∧ Below w.heap.size w w' := by
  obtain ⟨k, n, m⟩ := a
  unfold adv
  go_enter Tryz.func18, Tryz.ntmps18
  go_wp2
  refine bodyPost_ret (v := .agg #[.int .i64 k, .int .i64 n, .int .i64 m]) (by simp [results, Tryz.results18, go_sem]) rfl ⟨rfl, Below.al2 w _ _⟩
set_option maxRecDepth 100000 in
set_option maxHeartbeats 8000000 in
theorem line_c (N : Int) (L : Bool) (p : Option Addr) (ln cap : Nat) (w : World) : Calls Tryz.prog 15 #[lnv N L (.slice p ln cap)] w fun e w' => e = .returned (lnv N L (.slice p ln cap)) ∧ Below w.heap.size w w' := by
  unfold lnv
  go_enter Tryz.func15, Tryz.ntmps15
  go_wp2
  refine bodyPost_ret (v := .agg #[.int .i64 N, .bool L, .slice p ln cap]) (by simp [results, Tryz.results15, go_sem]) rfl ⟨rfl, Below.al2 w _ _⟩

set_option maxRecDepth 100000 in
set_option maxHeartbeats 8000000 in
theorem rhits_c (a : Ad) (N : Int) (L : Bool) (p : Option Addr) (ln cap : Nat) (H : List Bool) (hk : a.k = 3 → 0 ≤ a.n ∧ a.n ≤ 999999999 ∧ 0 ≤ a.m ∧ a.m ≤ 999999999) (hN0 : 0 ≤ N) (hN : N ≤ 999999999) (w : World) (hH : Bls w p ln cap H) :
    Calls Tryz.prog 38 #[adv a, lnv N L (.slice p ln cap)] w fun e w' => e = .returned (.bool (hitA a N L H)) ∧ Below w.heap.size w w' := by
  obtain ⟨k, n, m⟩ := a
  unfold adv lnv
  simp only at hk
  have HB := Lib.hid (Below.al2 w)
  by_cases h0 : k = 0
  · subst h0
    go_enter Tryz.func38, Tryz.ntmps38
    go_wp2
    go_ret
    exact ⟨rfl, HB.out _ _⟩
  · have t0 : (k == 0) = false := by simpa using h0
    by_cases h1 : k = 1
    · subst h1
      rw [show hitA ⟨1, n, m⟩ N L H = decide (N = n) from rfl]
      go_enter Tryz.func38, Tryz.ntmps38
      go_wp2
      go_ret
      exact ⟨rfl, HB.out _ _⟩
    · have t1 : (k == 1) = false := by simpa using h1
      by_cases h2 : k = 2
      · subst h2
        rw [show hitA ⟨2, n, m⟩ N L H = L from rfl]
        go_enter Tryz.func38, Tryz.ntmps38
        go_wp2
        go_ret
        exact ⟨rfl, HB.out _ _⟩
      · have t2 : (k == 2) = false := by simpa using h2
        by_cases h3 : k = 3
        · subst h3
          obtain ⟨n0, n9, m0, m9⟩ := hk rfl
          have e : hitA ⟨3, n, m⟩ N L H = if m ≤ 0 then decide (N = n) else decide (n ≤ N ∧ (N - n) % m = 0) := rfl
          rw [e]
          clear hk t0 t1 t2 h0 h1 h2 e
          by_cases hm : m = 0
          · subst hm
            rw [if_pos (by omega)]
            go_enter Tryz.func38, Tryz.ntmps38
            go_wp2
            go_ret
            exact ⟨rfl, HB.out _ _⟩
          · rw [if_neg (by omega)]
            have tm : (m == 0) = false := by simpa using hm
            by_cases hn : N ≤ n
            · have e2 : decide (n ≤ N ∧ (N - n) % m = 0) = decide (N = n) := by
                rw [Bool.eq_iff_iff]; simp only [decide_eq_true_eq]
                constructor
                · rintro ⟨h, _⟩; omega
                · rintro rfl; simp
              rw [e2]
              have tn : decide (N ≤ n) = true := by simp [hn]
              go_enter Tryz.func38, Tryz.ntmps38
              go_wp2
              go_ret
              exact ⟨rfl, HB.out _ _⟩
            · have tn : ¬ N ≤ n := hn
              have tn' : decide (N ≤ n) = false := by simp; omega
              have tp : 0 < m := by omega
              have tp' : decide (0 < m) = true := by simp; omega
              have w1 : IntKind.i64.wrap (N - n) = N - n := by simp [IntKind.wrap, IntKind.signed, IntKind.bits]; omega
              have hx0 := Int.emod_nonneg (N - n) (show m ≠ 0 by omega)
              have hx1 := Int.emod_lt_of_pos (N - n) tp
              have e3 : (N - n).tmod m = (N - n) % m := Int.tmod_eq_emod_of_nonneg (by omega)
              obtain ⟨x, hx⟩ : ∃ x, x = (N - n) % m := ⟨_, rfl⟩
              have e2 : decide (n ≤ N ∧ (N - n) % m = 0) = (x == 0) := by
                rw [← hx, Bool.eq_iff_iff]; simp; omega
              rw [e2]
              rw [← hx] at e3 hx0 hx1
              have e4 := hx.symm
              have w2 : IntKind.i64.wrap x = x := by simp [IntKind.wrap, IntKind.signed, IntKind.bits]; omega
              clear hx e2
              have mz : ¬ m = 0 := hm
              go_enter Tryz.func38, Tryz.ntmps38
              go_wp2
              go_ret
              exact ⟨rfl, HB.out _ _⟩
        · have t3 : (k == 3) = false := by simpa using h3
          by_cases h4 : k = 4
          · subst h4
            rw [show hitA ⟨4, n, m⟩ N L H = hasAt H n from rfl]
            clear hk t0 t1 t2 t3 h0 h1 h2 h3
            have hcm := hH.capm
            have hle := hH.le
            have hlen := hH.len
            unfold maxLen at hcm
            by_cases h1 : 0 ≤ n
            · have t1 : decide (0 ≤ n) = true := by simp [h1]
              by_cases h2 : n < ln
              · obtain ⟨b, o, rfl⟩ := hH.ptr (by omega)
                obtain ⟨j, rfl⟩ : ∃ j : Nat, n = j := ⟨n.toNat, by omega⟩
                obtain ⟨x, hx⟩ : ∃ x, H[j]? = some x := ⟨H[j]'(by omega), List.getElem?_eq_getElem (by omega)⟩
                have hc := hH.cell b o rfl j x hx
                have hlt := hH.lt (by omega) b o rfl
                rw [hasAt_in hx]
                have t2 : decide ((j : Int) < (ln : Int)) = true := by simp; omega
                have t3 : (j : Int) < (ln : Int) := h2
                clear hH hx h2 hlen
                go_enter Tryz.func38, Tryz.ntmps38
                go_wp2
                go_ret
                exact ⟨rfl, HB.out _ _⟩
              · have t2 : decide (n < ln) = false := by simp; omega
                rw [hasAt_out (by omega)]
                go_enter Tryz.func38, Tryz.ntmps38
                go_wp2
                go_ret
                exact ⟨rfl, HB.out _ _⟩
            · have t1 : decide (0 ≤ n) = false := by simp; omega
              rw [hasAt_out (by omega)]
              go_enter Tryz.func38, Tryz.ntmps38
              go_wp2
              go_ret
              exact ⟨rfl, HB.out _ _⟩
          · have t4 : (k == 4) = false := by simpa using h4
            have e : hitA ⟨k, n, m⟩ N L H = false := by
              rw [hit_of, if_neg h0, if_neg h1, if_neg h2, if_neg h3, if_neg h4]
            rw [e]
            go_enter Tryz.func38, Tryz.ntmps38
            go_wp2
            go_ret
            exact ⟨rfl, HB.out _ _⟩

end Go.Proofs.YtaamhjjdhebjfaaGreatDoor
