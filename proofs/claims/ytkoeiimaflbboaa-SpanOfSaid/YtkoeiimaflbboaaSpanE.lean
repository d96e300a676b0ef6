/- The contracts of Cut, of the document's own answer to it, and of what the statements show first. -/
import Derived.Test.YtkoeiimaflbboaaSpanD
namespace Go.Proofs.Ytkoeiimaflbboaa
open Go.RowKit Go.Proofs.Ytkoeiimaflbboaa.Fl
set_option linter.unusedVariables false

theorem cut_no (t : ByteArray) (x y : Nat) (w : World) (h : sp x y = none) :
    Calls Try.prog 30 #[.string t, .complex .f64 x y] w fun e w' => e = .returned (.string ByteArray.empty) ∧ w = w' := by
  have H1 := Lib.hid (fun w => may_no x y w h)
  clear h
  go_enter Try.func30, Try.ntmps30
  go_wp2_with fail
  refine wp_scope_fwd 0 rfl ?_
  go_wp2_with fail
  refine (H1.out _).mono ?_; rintro e w' ⟨rfl, rfl⟩
  go_wp2
  go_step3
  refine ⟨rfl, ?_⟩
  change Code.wp _ _ _ _ _
  go_wp2
  rw [Exit.noGoto_ret]
  go_ret
  exact ⟨rfl, rfl⟩

theorem cut_in (t : ByteArray) (x y m n : Nat) (w : World) (ht : t.size ≤ maxLen) (h : sp x y = some ((m : Int), (n : Int))) (h1 : m ≤ n) (h2 : n ≤ t.size) :
    Calls Try.prog 30 #[.string t, .complex .f64 x y] w fun e w' => e = .returned (.string (t.extract m n)) ∧ w = w' := by
  unfold maxLen at ht
  have H1 := Lib.hid (fun w => may_yes x y m n w h)
  have H2 := Lib.hid (fun w => from_yes x y m n w h)
  have H3 := Lib.hid (fun w => to_yes x y m n w h)
  have c0 : ¬ (t.size : Int) < m := by omega
  have c1 : ¬ (t.size : Int) < n := by omega
  clear h
  go_enter Try.func30, Try.ntmps30
  go_wp2_with fail
  go_step3
  go_wp2_with fail
  refine (H1.out _).mono ?_; rintro e w' ⟨rfl, rfl⟩
  go_wp2_with fail
  refine (H2.out _).mono ?_; rintro e w' ⟨rfl, rfl⟩
  go_wp2_with fail
  refine (H3.out _).mono ?_; rintro e w' ⟨rfl, rfl⟩
  go_wp2
  rw [Exit.noGoto_ret]
  go_ret
  exact ⟨rfl, rfl⟩

theorem cut_part (t : ByteArray) (x y m n : Nat) (w : World) (ht : t.size ≤ maxLen) (h : sp x y = some ((m : Int), (n : Int))) (h1 : m ≤ t.size) (h2 : t.size < n) :
    Calls Try.prog 30 #[.string t, .complex .f64 x y] w fun e w' => e = .returned (.string (t.extract m t.size)) ∧ w = w' := by
  unfold maxLen at ht
  have H1 := Lib.hid (fun w => may_yes x y m n w h)
  have H2 := Lib.hid (fun w => from_yes x y m n w h)
  have H3 := Lib.hid (fun w => to_yes x y m n w h)
  have c0 : ¬ (t.size : Int) < m := by omega
  have c1 : (t.size : Int) < n := by omega
  clear h
  go_enter Try.func30, Try.ntmps30
  go_wp2_with fail
  go_step3
  go_wp2_with fail
  refine (H1.out _).mono ?_; rintro e w' ⟨rfl, rfl⟩
  go_wp2_with fail
  refine (H2.out _).mono ?_; rintro e w' ⟨rfl, rfl⟩
  go_wp2_with fail
  refine (H3.out _).mono ?_; rintro e w' ⟨rfl, rfl⟩
  go_wp2
  rw [Exit.noGoto_ret]
  go_ret
  exact ⟨rfl, rfl⟩

theorem cut_past (t : ByteArray) (x y m n : Nat) (w : World) (ht : t.size ≤ maxLen) (h : sp x y = some ((m : Int), (n : Int))) (h1 : t.size < m) (h2 : t.size < n) :
    Calls Try.prog 30 #[.string t, .complex .f64 x y] w fun e w' => e = .returned (.string ByteArray.empty) ∧ w = w' := by
  unfold maxLen at ht
  have H1 := Lib.hid (fun w => may_yes x y m n w h)
  have H2 := Lib.hid (fun w => from_yes x y m n w h)
  have H3 := Lib.hid (fun w => to_yes x y m n w h)
  have c0 : (t.size : Int) < m := by omega
  have c1 : (t.size : Int) < n := by omega
  clear h
  go_enter Try.func30, Try.ntmps30
  go_wp2_with fail
  go_step3
  go_wp2_with fail
  refine (H1.out _).mono ?_; rintro e w' ⟨rfl, rfl⟩
  go_wp2_with fail
  refine (H2.out _).mono ?_; rintro e w' ⟨rfl, rfl⟩
  go_wp2_with fail
  refine (H3.out _).mono ?_; rintro e w' ⟨rfl, rfl⟩
  go_wp2
  rw [Exit.noGoto_ret]
  go_ret
  exact ⟨rfl, rfl⟩

/-- What of t's first k bytes lies in the span m to n. -/
def cutK (t : ByteArray) (m n k : Nat) : ByteArray := t.extract (min m k) (min n k)

theorem ext_same (t : ByteArray) (k : Nat) : t.extract k k = ByteArray.empty := by
  apply ByteArray.ext
  rw [ByteArray.data_extract]
  have h : (t.data.extract k k).size = 0 := by rw [Array.size_extract]; omega
  rw [Array.size_eq_zero_iff] at h
  rw [h]; rfl

theorem slice_next (t : ByteArray) (k : Nat) (h : k + 1 ≤ t.size) (w : World) :
    Sem.run Try.prog (Instr.slice 9 (.string t) (some (.int .i64 (k : Int))) (some (.int .i64 ((k : Int) + 1))) none) w = .ok (.string (t.extract k (k + 1))) w := by
  have e1 : ((k : Int) + 1).toNat = k + 1 := by omega
  have hu : Try.prog.underlying 9 = some .string := by kernel_rfl
  have hb : Sem.run Try.prog (Instr.sliceBound (.int .i64 (k : Int)) (k + 1) .sliceB) w = .ok k w := by
    rw [run_sliceBound w .i64 (k : Int) (k + 1) .sliceB (by omega) (by omega)]; rfl
  simp [Instr.slice, hb, run_underlying hu, Instr.sliceBounds, run_sliceBound, e1, (by omega : (0 : Int) ≤ (k : Int) + 1), (by omega : (k : Int) + 1 ≤ (t.size : Int))]

theorem cut_yes (t : ByteArray) (x y m n : Nat) (w : World) (ht : t.size ≤ maxLen) (h : sp x y = some ((m : Int), (n : Int))) :
    Calls Try.prog 30 #[.string t, .complex .f64 x y] w fun e w' => e = .returned (.string (cutK t m n t.size)) ∧ w = w' := by
  obtain ⟨_, _, _, h1, _⟩ := sp_some h
  have hmn : m ≤ n := Int.ofNat_le.1 h1
  unfold cutK
  by_cases a : n ≤ t.size
  · rw [Nat.min_eq_left a, Nat.min_eq_left (Nat.le_trans hmn a)]
    exact cut_in t x y m n w ht h hmn a
  · rw [Nat.min_eq_right (Nat.le_of_not_le a)]
    by_cases b : m ≤ t.size
    · rw [Nat.min_eq_left b]
      exact cut_part t x y m n w ht h b (Nat.lt_of_not_le a)
    · rw [Nat.min_eq_right (Nat.le_of_not_le b), ext_same]
      exact cut_past t x y m n w ht h (Nat.lt_of_not_le b) (Nat.lt_of_not_le a)

theorem cutK_ahead (t : ByteArray) (m n k : Nat) (hmn : m ≤ n) (h : k < m) : cutK t m n (k + 1) = cutK t m n k := by
  unfold cutK
  rw [Nat.min_eq_right (by omega), Nat.min_eq_right (by omega), Nat.min_eq_right (by omega), Nat.min_eq_right (by omega), ext_same, ext_same]

theorem cutK_behind (t : ByteArray) (m n k : Nat) (hmn : m ≤ n) (h : n ≤ k) : cutK t m n (k + 1) = cutK t m n k := by
  unfold cutK
  rw [Nat.min_eq_left (by omega), Nat.min_eq_left (by omega), Nat.min_eq_left (by omega), Nat.min_eq_left (by omega)]

theorem cutK_in (t : ByteArray) (m n k : Nat) (h0 : m ≤ k) (h1 : k < n) : cutK t m n (k + 1) = cutK t m n k ++ t.extract k (k + 1) := by
  unfold cutK
  rw [Nat.min_eq_left (by omega), Nat.min_eq_right (by omega), Nat.min_eq_left (by omega), Nat.min_eq_right (by omega)]
  rw [ByteArray.extract_append_extract]
  congr 1 <;> omega

theorem cutK_zero (t : ByteArray) (m n : Nat) : cutK t m n 0 = ByteArray.empty := by
  unfold cutK; rw [Nat.min_zero, Nat.min_zero, ext_same]

theorem cutK_size (t : ByteArray) (m n k : Nat) : (cutK t m n k).size ≤ t.size := by
  unfold cutK; rw [ByteArray.size_extract]; omega

theorem cutr_yes (t : ByteArray) (x y m n : Nat) (w : World) (ht : t.size ≤ 300) (h : sp x y = some ((m : Int), (n : Int))) :
    Calls Try.prog 31 #[.string t, .complex .f64 x y] w fun e w' => e = .returned (.string (cutK t m n t.size)) ∧ w = w' := by
  obtain ⟨_, _, _, h1, _⟩ := sp_some h
  have hmn : m ≤ n := Int.ofNat_le.1 h1
  have C1 := fun w => mayr x y w
  rw [h] at C1
  have H1 := Lib.hid C1
  have H2 := Lib.hid (fun w => fromr_yes x y m n w h)
  have H3 := Lib.hid (fun w => tor_yes x y m n w h)
  clear C1 h h1
  go_enter Try.func31, Try.ntmps31
  go_wp2
  go_loop [5, 6] (fun o i => ∃ k : Nat, k ≤ t.size ∧ i = .int .i64 k ∧ o = .string (cutK t m n k)) (fun _ i => t.size - (intOf i).toNat)
  case atStart => exact ⟨0, Nat.zero_le _, rfl, by rw [cutK_zero]; rfl⟩
  case round =>
    obtain ⟨k, hk, rfl, rfl⟩ := hrel
    have hsz := cutK_size t m n k
    by_cases hlt : k < t.size
    · by_cases q1 : k < m
      · go_wp2_with fail
        refine (H1.out _).mono ?_; rintro e w' ⟨rfl, rfl⟩
        go_wp2_with fail
        refine (H2.out _).mono ?_; rintro e w' ⟨rfl, rfl⟩
        go_wp2
        go_round
        case rel => exact ⟨k + 1, by omega, by go_num, by rw [cutK_ahead t m n k hmn q1]⟩
        case measure => simp [intOf]; omega
      · by_cases q2 : k < n
        · have hsl := slice_next t k hlt
          go_wp2_with fail
          refine (H1.out _).mono ?_; rintro e w' ⟨rfl, rfl⟩
          go_wp2_with fail
          refine (H2.out _).mono ?_; rintro e w' ⟨rfl, rfl⟩
          go_wp2_with fail
          refine (H3.out _).mono ?_; rintro e w' ⟨rfl, rfl⟩
          go_wp2
          go_round
          case rel => exact ⟨k + 1, by omega, by go_num, by rw [cutK_in t m n k (by omega) q2]⟩
          case measure => simp [intOf]; omega
        · go_wp2_with fail
          refine (H1.out _).mono ?_; rintro e w' ⟨rfl, rfl⟩
          go_wp2_with fail
          refine (H2.out _).mono ?_; rintro e w' ⟨rfl, rfl⟩
          go_wp2_with fail
          refine (H3.out _).mono ?_; rintro e w' ⟨rfl, rfl⟩
          go_wp2
          go_round
          case rel => exact ⟨k + 1, by omega, by go_num, by rw [cutK_behind t m n k hmn (by omega)]⟩
          case measure => simp [intOf]; omega
    · have : k = t.size := by omega
      subst this
      go_wp2
      go_ret
      exact ⟨rfl, rfl⟩

theorem cutr_no (t : ByteArray) (x y : Nat) (w : World) (ht : t.size ≤ 300) (h : sp x y = none) :
    Calls Try.prog 31 #[.string t, .complex .f64 x y] w fun e w' => e = .returned (.string ByteArray.empty) ∧ w = w' := by
  have C1 := fun w => mayr x y w
  rw [h] at C1
  have H1 := Lib.hid C1
  clear C1 h
  go_enter Try.func31, Try.ntmps31
  go_wp2
  go_loop [5, 6] (fun o i => ∃ k : Nat, k ≤ t.size ∧ i = .int .i64 k ∧ o = .string ByteArray.empty) (fun _ i => t.size - (intOf i).toNat)
  case atStart => exact ⟨0, Nat.zero_le _, rfl, rfl⟩
  case round =>
    obtain ⟨k, hk, rfl, rfl⟩ := hrel
    by_cases hlt : k < t.size
    · go_wp2_with fail
      refine (H1.out _).mono ?_; rintro e w' ⟨rfl, rfl⟩
      go_wp2
      go_round
      case rel => exact ⟨k + 1, by omega, by go_num, rfl⟩
      case measure => simp [intOf]; omega
    · go_wp2
      go_ret
      exact ⟨rfl, rfl⟩

theorem sp13 : sp (floatOfInt .f64 1) (floatOfInt .f64 3) = some (1, 3) := by decide +kernel
theorem spNone : sp NEGB NEGB = none := by decide +kernel

def hello : ByteArray := ⟨#[104, 101, 108, 108, 111]⟩

theorem shown_true (w : World) : Calls Try.prog 23 #[] w fun e w' => e = .returned (.bool true) ∧ w = w' := by
  have H0 := Lib.hid (fun w => of_yes 1 3 w (by decide) (by decide) (by decide))
  have e : cutK hello 1 3 hello.size = ⟨#[101, 108]⟩ := by decide +kernel
  have H1 := Lib.hid (fun w => by have := cut_yes hello _ _ 1 3 w (by decide) sp13; rw [e] at this; exact this)
  have H2 := Lib.hid (fun w => len_yes _ _ 1 3 w sp13)
  have H3 := Lib.hid (fun w => from_yes _ _ 1 3 w sp13)
  have H4 := Lib.hid (fun w => none_code w)
  have H5 := Lib.hid (fun w => may_no _ _ w spNone)
  go_enter Try.func23, Try.ntmps23
  go_wp2_with fail
  refine (H0.out _).mono ?_; rintro e w' ⟨rfl, rfl⟩
  go_wp2_with fail
  refine (H1.out _).mono ?_; rintro e w' ⟨rfl, rfl⟩
  go_wp2_with fail
  refine (H2.out _).mono ?_; rintro e w' ⟨rfl, rfl⟩
  go_wp2_with fail
  refine (H3.out _).mono ?_; rintro e w' ⟨rfl, rfl⟩
  go_wp2_with fail
  refine (H4.out _).mono ?_; rintro e w' ⟨rfl, rfl⟩
  go_wp2_with fail
  refine (H5.out _).mono ?_; rintro e w' ⟨rfl, rfl⟩
  go_wp2
  go_ret
  exact ⟨rfl, rfl⟩

end Go.Proofs.Ytkoeiimaflbboaa
