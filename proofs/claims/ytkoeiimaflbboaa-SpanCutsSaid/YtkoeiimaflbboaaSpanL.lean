/- The walks of the statements SpanOf and SpanCuts. -/
import Derived.Test.YtkoeiimaflbboaaSpanE
namespace Go.Proofs.Ytkoeiimaflbboaa
open Go.RowKit Go.Proofs.Ytkoeiimaflbboaa.Fl
set_option linter.unusedVariables false

theorem of_walk (a b : Int) (wa : (Lit.int .i64 a).wf = true) (wb : (Lit.int .i64 b).wf = true) (w : World) :
    Calls Try.prog 4 #[.int .i64 a, .int .i64 b] w fun e w' => e = .returned (.bool true) ∧ Grown w w' := by
  clear wa wb
  by_cases hc : 0 ≤ a ∧ a ≤ b ∧ b ≤ 999999999
  · obtain ⟨h0, h1, h2⟩ := hc
    have hp : (2 : Nat) ^ 53 = 9007199254740992 := rfl
    have va := val_floatOfInt (n := a) (by omega)
    have vb := val_floatOfInt (n := b) (by omega)
    have hs := sp_of va vb h0 h1 h2
    have H1 := Lib.hid (fun w => of_yes a b w h0 h1 h2)
    have H2 := Lib.hid (fun w => ofr_yes a b w h0 h1 h2)
    have H3 := Lib.hid (fun w => same_yes _ _ _ _ _ _ w va vb va vb)
    have H4 := Lib.hid (fun w => may_yes _ _ _ _ w hs)
    have H5 := Lib.hid (fun w => from_yes _ _ _ _ w hs)
    have H6 := Lib.hid (fun w => to_yes _ _ _ _ w hs)
    have H7 := Lib.hid (fun w => shown_true w)
    clear va vb hs hp
    go_enter Try.func4, Try.ntmps4
    go_wp2_with fail
    refine (H1.out _).mono ?_; rintro e w' ⟨rfl, rfl⟩
    go_wp2_with fail
    refine (H2.out _).mono ?_; rintro e w' ⟨rfl, rfl⟩
    go_wp2_with fail
    refine (H3.out _).mono ?_; rintro e w' ⟨rfl, rfl⟩
    go_wp2_with fail
    refine (H4.out _).mono ?_; rintro e w' ⟨rfl, rfl⟩
    go_wp2_with fail
    refine (H5.out _).mono ?_; rintro e w' ⟨rfl, rfl⟩
    go_wp2_with fail
    refine (H6.out _).mono ?_; rintro e w' ⟨rfl, rfl⟩
    go_wp2_with fail
    refine (H7.out _).mono ?_; rintro e w' ⟨rfl, rfl⟩
    go_wp2
    go_ret
    exact ⟨rfl, Grown.refl _⟩
  · have hc' : a < 0 ∨ b < a ∨ 999999999 < b := by omega
    have vn := val_neg
    have H1 := Lib.hid (fun w => of_no a b w hc')
    have H2 := Lib.hid (fun w => ofr_no a b w hc')
    have H3 := Lib.hid (fun w => same_yes _ _ _ _ _ _ w vn vn vn vn)
    have H4 := Lib.hid (fun w => may_no _ _ w spNone)
    have H7 := Lib.hid (fun w => shown_true w)
    clear vn hc hc'
    go_enter Try.func4, Try.ntmps4
    go_wp2_with fail
    refine (H1.out _).mono ?_; rintro e w' ⟨rfl, rfl⟩
    go_wp2_with fail
    refine (H2.out _).mono ?_; rintro e w' ⟨rfl, rfl⟩
    go_wp2_with fail
    refine (H3.out _).mono ?_; rintro e w' ⟨rfl, rfl⟩
    go_wp2_with fail
    refine (H4.out _).mono ?_; rintro e w' ⟨rfl, rfl⟩
    go_wp2_with fail
    refine (H7.out _).mono ?_; rintro e w' ⟨rfl, rfl⟩
    go_wp2
    go_ret
    exact ⟨rfl, Grown.refl _⟩

theorem cuts_walk (t : ByteArray) (a b : Nat) (wt : t.size ≤ maxLen) (w : World) :
    Calls Try.prog 6 #[.string t, .float .f64 a, .float .f64 b] w fun e w' => e = .returned (.bool true) ∧ Grown w w' := by
  have H7 := Lib.hid (fun w => shown_true w)
  have wt' := wt
  unfold maxLen at wt'
  by_cases hc : t.size ≤ 300
  · have q : ¬ 300 < t.size := by omega
    cases hs : sp a b with
    | none =>
      have H1 := Lib.hid (fun w => cut_no t a b w hs)
      have H2 := Lib.hid (fun w => cutr_no t a b w hc hs)
      clear hs
      go_enter Try.func6, Try.ntmps6
      go_wp2_with fail
      refine (H7.out _).mono ?_; rintro e w' ⟨rfl, rfl⟩
      go_wp2_with fail
      refine (H1.out _).mono ?_; rintro e w' ⟨rfl, rfl⟩
      go_wp2_with fail
      refine (H2.out _).mono ?_; rintro e w' ⟨rfl, rfl⟩
      go_wp2
      go_ret
      exact ⟨rfl, Grown.refl _⟩
    | some mn =>
      obtain ⟨m, n⟩ := mn
      obtain ⟨_, _, h0, h1, _⟩ := sp_some hs
      obtain ⟨m, rfl⟩ := Int.eq_ofNat_of_zero_le h0
      obtain ⟨n, rfl⟩ := Int.eq_ofNat_of_zero_le (Int.le_trans h0 h1)
      have H1 := Lib.hid (fun w => cut_yes t a b m n w wt hs)
      have H2 := Lib.hid (fun w => cutr_yes t a b m n w hc hs)
      clear hs
      generalize cutK t m n t.size = r at *
      go_enter Try.func6, Try.ntmps6
      go_wp2_with fail
      refine (H7.out _).mono ?_; rintro e w' ⟨rfl, rfl⟩
      go_wp2_with fail
      refine (H1.out _).mono ?_; rintro e w' ⟨rfl, rfl⟩
      go_wp2_with fail
      refine (H2.out _).mono ?_; rintro e w' ⟨rfl, rfl⟩
      go_wp2
      go_ret
      exact ⟨by simp, Grown.refl _⟩
  · have q : 300 < t.size := by omega
    go_enter Try.func6, Try.ntmps6
    go_wp2_with fail
    refine (H7.out _).mono ?_; rintro e w' ⟨rfl, rfl⟩
    go_wp2
    go_ret
    exact ⟨rfl, Grown.refl _⟩

end Go.Proofs.Ytkoeiimaflbboaa
