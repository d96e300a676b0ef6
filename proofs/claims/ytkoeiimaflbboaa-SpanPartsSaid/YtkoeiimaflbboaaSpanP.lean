/- The walk of the statement SpanParts. -/
import Derived.Test.YtkoeiimaflbboaaSpanE
import Derived.OpenShut
namespace Go.Proofs.Ytkoeiimaflbboaa
open Go.RowKit Go.Proofs.Ytkoeiimaflbboaa.Fl
set_option linter.unusedVariables false

/-- Three pieces, one behind the other, are the whole. -/
theorem cut_three (t : ByteArray) (lo hi : Nat) (h0 : lo ≤ hi) (h1 : hi ≤ t.size) :
    cutK t 0 lo t.size ++ cutK t lo hi t.size ++ cutK t hi t.size t.size = t := by
  unfold cutK
  rw [Nat.zero_min, Nat.min_eq_left (by omega : lo ≤ t.size), Nat.min_eq_left h1, Nat.min_self]
  rw [ByteArray.extract_append_extract, show min 0 lo = 0 by omega, show max lo hi = hi by omega]
  rw [ByteArray.extract_append_extract, show min 0 hi = 0 by omega, show max hi t.size = t.size by omega]
  simp

theorem rem_nat (i : Int) (L : Nat) (h : 0 ≤ i) : ∃ A : Nat, i % ((L : Int) + 1) = (A : Int) ∧ A ≤ L := by
  have p : (0 : Int) < (L : Int) + 1 := by omega
  have h0 := Int.emod_nonneg i (Int.ne_of_gt p)
  have h1 := Int.emod_lt_of_pos i p
  exact ⟨(i % ((L : Int) + 1)).toNat, by omega, by omega⟩

theorem parts_walk (t : ByteArray) (i j : Int) (wt : t.size ≤ maxLen) (wi : (Lit.int .u16 i).wf = true) (wj : (Lit.int .u16 j).wf = true) (w : World) :
    Calls Try.prog 7 #[.string t, .int .u16 i, .int .u16 j] w fun e w' => e = .returned (.bool true) ∧ Grown w w' := by
  have H9 := Lib.hid (fun w => shown_true w)
  have bi := bounds_u16 wi
  have bj := bounds_u16 wj
  have wt' := wt
  unfold maxLen at wt'
  clear wi wj
  by_cases hc : t.size ≤ 300
  · have q : ¬ 300 < t.size := by omega
    obtain ⟨bi0, bi1⟩ := bi
    obtain ⟨bj0, bj1⟩ := bj
    obtain ⟨A, hA, bA⟩ := rem_nat i t.size bi0
    obtain ⟨B, hB, bB⟩ := rem_nat j t.size bj0
    have hp : (2 : Nat) ^ 53 = 9007199254740992 := rfl
    have v0 := val_floatOfInt (n := 0) (by decide)
    have vL := val_floatOfInt (n := (t.size : Int)) (by omega)
    rcases Nat.lt_trichotomy A B with hAB | hAB | hAB
    · have f1 : (A : Int) < B := by omega
      have vlo := val_floatOfInt (n := (A : Int)) (by omega)
      have vhi := val_floatOfInt (n := (B : Int)) (by omega)
      have s1 := sp_of v0 vlo (by omega) (by omega) (by omega)
      have s2 := sp_of vlo vhi (by omega) (by omega) (by omega)
      have s3 := sp_of vhi vL (by omega) (by omega) (by omega)
      have hcat := cut_three t A B (by omega) (by omega)
      have H1 := Lib.hid (fun w => of_yes 0 (A : Int) w (by omega) (by omega) (by omega))
      have H2 := Lib.hid (fun w => of_yes (A : Int) (B : Int) w (by omega) (by omega) (by omega))
      have H3 := Lib.hid (fun w => of_yes (B : Int) (t.size : Int) w (by omega) (by omega) (by omega))
      have H4 := Lib.hid (fun w => cut_yes t _ _ 0 A w wt s1)
      have H5 := Lib.hid (fun w => cut_yes t _ _ A B w wt s2)
      have H6 := Lib.hid (fun w => cut_yes t _ _ B t.size w wt s3)
      have C7 := fun w => len_yes _ _ _ _ w s1
      simp only [Int.sub_zero] at C7
      have H7 := Lib.hid C7
      have H8 := Lib.hid (fun w => len_yes _ _ _ _ w s2)
      have H10 := Lib.hid (fun w => len_yes _ _ _ _ w s3)
      clear C7 s1 s2 s3 vlo vhi
      have z1 := cutK_size t 0 A t.size
      have z2 := cutK_size t A B t.size
      have z3 := cutK_size t B t.size t.size
      generalize cutK t 0 A t.size = r1 at *
      generalize cutK t A B t.size = r2 at *
      generalize cutK t B t.size t.size = r3 at *
      have el : (((A : Int) + ((B : Int) - A) + ((t.size : Int) - B)) == (t.size : Int)) = true := beq_iff_eq.2 (by omega)
      have f2 : ¬ (B : Int) < A := by omega
      clear v0 vL hp
      go_enter Try.func7, Try.ntmps7
      go_wp2_with fail
      refine (H9.out _).mono ?_; rintro e w' ⟨rfl, rfl⟩
      go_wp2_with fail
      refine (H1.out _).mono ?_; rintro e w' ⟨rfl, rfl⟩
      go_wp2_with fail
      refine (H2.out _).mono ?_; rintro e w' ⟨rfl, rfl⟩
      go_wp2_with fail
      refine (H3.out _).mono ?_; rintro e w' ⟨rfl, rfl⟩
      go_wp2_with fail
      refine (H4.out _).mono ?_; rintro e w' ⟨rfl, rfl⟩
      go_wp2_with fail
      refine (H5.out _).mono ?_; rintro e w' ⟨rfl, rfl⟩
      go_wp2_with fail
      refine (H6.out _).mono ?_; rintro e w' ⟨rfl, rfl⟩
      go_wp2_with fail
      refine (H7.out _).mono ?_; rintro e w' ⟨rfl, rfl⟩
      go_wp2_with fail
      refine (H8.out _).mono ?_; rintro e w' ⟨rfl, rfl⟩
      go_wp2_with fail
      refine (H10.out _).mono ?_; rintro e w' ⟨rfl, rfl⟩
      go_wp2
      go_ret
      first | exact ⟨rfl, Grown.refl _⟩ | exact ⟨congrArg (fun t => Ending.returned (Value.bool t)) (beq_iff_eq.2 (by omega)), Grown.refl _⟩
    · subst hAB
      have vlo := val_floatOfInt (n := (A : Int)) (by omega)
      have vhi := val_floatOfInt (n := (A : Int)) (by omega)
      have s1 := sp_of v0 vlo (by omega) (by omega) (by omega)
      have s2 := sp_of vlo vhi (by omega) (by omega) (by omega)
      have s3 := sp_of vhi vL (by omega) (by omega) (by omega)
      have hcat := cut_three t A A (by omega) (by omega)
      have H1 := Lib.hid (fun w => of_yes 0 (A : Int) w (by omega) (by omega) (by omega))
      have H2 := Lib.hid (fun w => of_yes (A : Int) (A : Int) w (by omega) (by omega) (by omega))
      have H3 := Lib.hid (fun w => of_yes (A : Int) (t.size : Int) w (by omega) (by omega) (by omega))
      have H4 := Lib.hid (fun w => cut_yes t _ _ 0 A w wt s1)
      have H5 := Lib.hid (fun w => cut_yes t _ _ A A w wt s2)
      have H6 := Lib.hid (fun w => cut_yes t _ _ A t.size w wt s3)
      have C7 := fun w => len_yes _ _ _ _ w s1
      simp only [Int.sub_zero] at C7
      have H7 := Lib.hid C7
      have H8 := Lib.hid (fun w => len_yes _ _ _ _ w s2)
      have H10 := Lib.hid (fun w => len_yes _ _ _ _ w s3)
      clear C7 s1 s2 s3 vlo vhi
      have z1 := cutK_size t 0 A t.size
      have z2 := cutK_size t A A t.size
      have z3 := cutK_size t A t.size t.size
      generalize cutK t 0 A t.size = r1 at *
      generalize cutK t A A t.size = r2 at *
      generalize cutK t A t.size t.size = r3 at *
      have el : (((A : Int) + ((A : Int) - A) + ((t.size : Int) - A)) == (t.size : Int)) = true := beq_iff_eq.2 (by omega)
      have f2 : ¬ (A : Int) < A := by omega
      clear v0 vL hp
      go_enter Try.func7, Try.ntmps7
      go_wp2_with fail
      refine (H9.out _).mono ?_; rintro e w' ⟨rfl, rfl⟩
      go_wp2_with fail
      refine (H1.out _).mono ?_; rintro e w' ⟨rfl, rfl⟩
      go_wp2_with fail
      refine (H2.out _).mono ?_; rintro e w' ⟨rfl, rfl⟩
      go_wp2_with fail
      refine (H3.out _).mono ?_; rintro e w' ⟨rfl, rfl⟩
      go_wp2_with fail
      refine (H4.out _).mono ?_; rintro e w' ⟨rfl, rfl⟩
      go_wp2_with fail
      refine (H5.out _).mono ?_; rintro e w' ⟨rfl, rfl⟩
      go_wp2_with fail
      refine (H6.out _).mono ?_; rintro e w' ⟨rfl, rfl⟩
      go_wp2_with fail
      refine (H7.out _).mono ?_; rintro e w' ⟨rfl, rfl⟩
      go_wp2_with fail
      refine (H8.out _).mono ?_; rintro e w' ⟨rfl, rfl⟩
      go_wp2_with fail
      refine (H10.out _).mono ?_; rintro e w' ⟨rfl, rfl⟩
      go_wp2
      go_ret
      first | exact ⟨rfl, Grown.refl _⟩ | exact ⟨congrArg (fun t => Ending.returned (Value.bool t)) (beq_iff_eq.2 (by omega)), Grown.refl _⟩
    · have f1 : (B : Int) < A := by omega
      have vlo := val_floatOfInt (n := (B : Int)) (by omega)
      have vhi := val_floatOfInt (n := (A : Int)) (by omega)
      have s1 := sp_of v0 vlo (by omega) (by omega) (by omega)
      have s2 := sp_of vlo vhi (by omega) (by omega) (by omega)
      have s3 := sp_of vhi vL (by omega) (by omega) (by omega)
      have hcat := cut_three t B A (by omega) (by omega)
      have H1 := Lib.hid (fun w => of_yes 0 (B : Int) w (by omega) (by omega) (by omega))
      have H2 := Lib.hid (fun w => of_yes (B : Int) (A : Int) w (by omega) (by omega) (by omega))
      have H3 := Lib.hid (fun w => of_yes (A : Int) (t.size : Int) w (by omega) (by omega) (by omega))
      have H4 := Lib.hid (fun w => cut_yes t _ _ 0 B w wt s1)
      have H5 := Lib.hid (fun w => cut_yes t _ _ B A w wt s2)
      have H6 := Lib.hid (fun w => cut_yes t _ _ A t.size w wt s3)
      have C7 := fun w => len_yes _ _ _ _ w s1
      simp only [Int.sub_zero] at C7
      have H7 := Lib.hid C7
      have H8 := Lib.hid (fun w => len_yes _ _ _ _ w s2)
      have H10 := Lib.hid (fun w => len_yes _ _ _ _ w s3)
      clear C7 s1 s2 s3 vlo vhi
      have z1 := cutK_size t 0 B t.size
      have z2 := cutK_size t B A t.size
      have z3 := cutK_size t A t.size t.size
      generalize cutK t 0 B t.size = r1 at *
      generalize cutK t B A t.size = r2 at *
      generalize cutK t A t.size t.size = r3 at *
      have el : (((B : Int) + ((A : Int) - B) + ((t.size : Int) - A)) == (t.size : Int)) = true := beq_iff_eq.2 (by omega)
      have f2 : ¬ (A : Int) < B := by omega
      clear v0 vL hp
      go_enter Try.func7, Try.ntmps7
      go_wp2_with fail
      refine (H9.out _).mono ?_; rintro e w' ⟨rfl, rfl⟩
      go_wp2_with fail
      refine (H1.out _).mono ?_; rintro e w' ⟨rfl, rfl⟩
      go_wp2_with fail
      refine (H2.out _).mono ?_; rintro e w' ⟨rfl, rfl⟩
      go_wp2_with fail
      refine (H3.out _).mono ?_; rintro e w' ⟨rfl, rfl⟩
      go_wp2_with fail
      refine (H4.out _).mono ?_; rintro e w' ⟨rfl, rfl⟩
      go_wp2_with fail
      refine (H5.out _).mono ?_; rintro e w' ⟨rfl, rfl⟩
      go_wp2_with fail
      refine (H6.out _).mono ?_; rintro e w' ⟨rfl, rfl⟩
      go_wp2_with fail
      refine (H7.out _).mono ?_; rintro e w' ⟨rfl, rfl⟩
      go_wp2_with fail
      refine (H8.out _).mono ?_; rintro e w' ⟨rfl, rfl⟩
      go_wp2_with fail
      refine (H10.out _).mono ?_; rintro e w' ⟨rfl, rfl⟩
      go_wp2
      go_ret
      first | exact ⟨rfl, Grown.refl _⟩ | exact ⟨congrArg (fun t => Ending.returned (Value.bool t)) (beq_iff_eq.2 (by omega)), Grown.refl _⟩
  · have q : 300 < t.size := by omega
    go_enter Try.func7, Try.ntmps7
    go_wp2_with fail
    refine (H9.out _).mono ?_; rintro e w' ⟨rfl, rfl⟩
    go_wp2
    go_ret
    exact ⟨rfl, Grown.refl _⟩

end Go.Proofs.Ytkoeiimaflbboaa
