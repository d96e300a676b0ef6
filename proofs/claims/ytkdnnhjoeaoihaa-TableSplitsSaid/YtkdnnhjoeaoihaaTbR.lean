/- TableSplits' walk. -/
import Derived.Test.YtkdnnhjoeaoihaaTbQ
namespace Go.Proofs.Ytkdnnhjoeaoihaa
open Go.RowKit Go.Shelf
set_option linter.unusedVariables false
set_option linter.unusedSimpArgs false

set_option maxRecDepth 100000 in
set_option maxHeartbeats 8000000 in
theorem splitsW (t : ByteArray) (p : Option Addr) (n cap : Nat) (xs : List Ln) (w : World) (h : Lines w p n cap xs) :
    Calls Try.prog 6 #[.string t, .slice p n cap] w fun e w' => e = .returned (.bool true) ∧ Below w.heap.size w w' := by
  have HS := Lib.hid (fun w => shown_c w)
  have hlen := h.len
  have hm := h.le
  have hm2 := h.capm
  unfold maxLen at hm2
  by_cases hb : t.size ≤ 500
  · have t1 : decide ((500 : Int) < (t.size : Int)) = false := by simp; omega
    by_cases hn : n ≤ 60
    · have t2 : decide ((60 : Int) < (n : Int)) = false := by simp; omega
      obtain ⟨s, hs⟩ : ∃ s, s = t.data.toList := ⟨_, rfl⟩
      have ht : t = ⟨s.toArray⟩ := by rw [hs]
      have hl : s.length = t.size := by rw [hs]; simp
      have hsz := spl_size s.length s (Nat.le_refl _)
      have hbn := spl_bound s
      have HP := Lib.hid (fun w => split_c s (by omega) w)
      have HR := Lib.hid (fun w => rsplit_c s (by omega) w)
      have HI := Lib.hid (fun q m cap w (h : Lines w q m cap (spl s)) => lines_c q m cap (spl s) w (by have := h.len; omega) h)
      have HM := Lib.hid (fun q m cap q' m' cap' w (h : Lines w q m cap (spl s)) (h' : Lines w q' m' cap' (spl s)) => samel_c q q' m m' cap cap' (spl s) (spl s) true (by simp) w (fun x hx => by have := hsz x hx; unfold okSl maxLen; omega) (fun x hx => by have := hsz x hx; unfold okSl maxLen; omega) h h')
      rw [← ht] at HP HR
      clear hs ht hsz
      go_enter Try.func6, Try.ntmps6
      go_wp2_with fail
      refine (HS.out _).mono ?_
      rintro e w1 ⟨rfl, hB1⟩
      have hF1 := h.beside hB1
      go_wp2_with fail
      go_loop [5] (fun i => ∃ k : Nat, k ≤ n ∧ i = .int .i64 k ∧ (xs.take k).all (fun x => decide (x.1.size ≤ 100)) = true) (fun i => n - (RowKit.intOf i).toNat)
      case atStart => exact ⟨0, by omega, rfl, by simp⟩
      case round =>
        obtain ⟨k, hk, rfl, ha⟩ := hrel
        by_cases hlt : k < n
        · obtain ⟨b, o, rfl⟩ := h.ptr (by omega)
          obtain ⟨x, hxk⟩ : ∃ x, xs[k]? = some x := ⟨xs[k]'(by omega), List.getElem?_eq_getElem (by omega)⟩
          obtain ⟨c0, c1⟩ := hF1.cell b o rfl k x hxk
          have hsn := take_snoc_all (fun x : Ln => decide (x.1.size ≤ 100)) xs k x hxk
          have hki : (k : Int) < n := by omega
          have HA := Lib.hid ha
          have HSN := Lib.hid hsn
          clear ha hsn hxk h hF1
          by_cases h1 : x.1.size ≤ 100
          · have t3 : decide ((100 : Int) < (x.1.size : Int)) = false := by simp; omega
            go_wp2
            go_round
            case rel => exact ⟨k + 1, by omega, by simp, by rw [HSN.out, HA.out]; simp [h1]⟩
            case measure => (simp [RowKit.intOf]) <;> omega
          · have t3 : decide ((100 : Int) < (x.1.size : Int)) = true := by simp; omega
            go_wp2_with fail
            refine (HS.out _).mono ?_
            rintro e w2 ⟨rfl, hB2⟩
            go_wp2
            go_ret
            exact ⟨rfl, hB1.trans (hB2.mono hB1.size)⟩
        · obtain rfl : k = n := by omega
          have hlt1 : ((k : Int) < k) = False := by simp
          rw [← hlen, List.take_length] at ha
          have HA : Hid (∀ x ∈ xs, x.1.size ≤ 1000) := Lib.hid (fun x hx => by have := List.all_eq_true.1 ha x hx; simp at this; omega)
          clear ha
          go_wp2_with fail
          refine (HP.out _).mono ?_
          rintro e w2 ⟨⟨q2, n2, cap2, rfl, hL2⟩, hB2⟩
          have b2 := hB1.trans (hB2.mono hB1.size)
          go_wp2_with fail
          refine (HI.out _ _ _ _ hL2).mono ?_
          rintro e w3 ⟨⟨q3, cap3, rfl, hL3⟩, hB3⟩
          have b3 := b2.trans (hB3.mono b2.size)
          go_wp2_with fail
          refine (HR.out _).mono ?_
          rintro e w4 ⟨⟨q4, n4, cap4, rfl, hL4⟩, hB4⟩
          have b4 := b3.trans (hB4.mono b3.size)
          have hL3' := hL3.beside hB4
          go_wp2_with fail
          refine (HM.out _ _ _ _ _ _ _ hL3' hL4).mono ?_
          rintro e w5 ⟨rfl, hB5⟩
          have b5 := b4.trans (hB5.mono b4.size)
          have hF5 := h.beside b5
          go_wp2_with fail
          refine (join_c p k cap xs _ (by omega) HA.out hF5).mono ?_
          rintro e w6 ⟨rfl, hB6⟩
          have b6 := b5.trans (hB6.mono b5.size)
          have hF6 := h.beside b6
          go_wp2_with fail
          refine (lines_c p k cap xs _ (by omega) hF6).mono ?_
          rintro e w7 ⟨⟨q7, cap7, rfl, hL7⟩, hB7⟩
          have b7 := b6.trans (hB7.mono b6.size)
          go_wp2_with fail
          refine (rjoin_c q7 k cap7 xs _ (by omega) HA.out hL7).mono ?_
          rintro e w8 ⟨rfl, rfl⟩
          go_wp2
          go_ret
          exact ⟨by simp, b7⟩
    · have t2 : decide ((60 : Int) < (n : Int)) = true := by simp; omega
      go_enter Try.func6, Try.ntmps6
      go_wp2_with fail
      refine (HS.out _).mono ?_
      rintro e w1 ⟨rfl, hB1⟩
      go_wp2
      go_ret
      exact ⟨rfl, hB1⟩
  · have t1 : decide ((500 : Int) < (t.size : Int)) = true := by simp; omega
    go_enter Try.func6, Try.ntmps6
    go_wp2_with fail
    refine (HS.out _).mono ?_
    rintro e w1 ⟨rfl, hB1⟩
    go_wp2
    go_ret
    exact ⟨rfl, hB1⟩

end Go.Proofs.Ytkdnnhjoeaoihaa
