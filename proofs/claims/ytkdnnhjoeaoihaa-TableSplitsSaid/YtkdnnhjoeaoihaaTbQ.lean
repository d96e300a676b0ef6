/- TableBack's walk. -/
import Derived.Test.YtkdnnhjoeaoihaaTbP
namespace Go.Proofs.Ytkdnnhjoeaoihaa
open Go.RowKit Go.Shelf
set_option linter.unusedVariables false
set_option linter.unusedSimpArgs false

theorem fnd_cut : ∀ u : List UInt8, fnd (cut1 u) = false
  | [] => rfl
  | b :: l => by
    have ih := fnd_cut l
    by_cases h : b = 10
    · subst h; rfl
    · have h1 : (b == 10) = false := by simpa using h
      have h2 : (b != 10) = true := by simp [bne, h1]
      unfold fnd cut1 at *
      simp only [List.takeWhile_cons, h2, if_true, List.any_cons, h1, Bool.false_or]
      exact ih
theorem spl_line : ∀ (n : Nat) (u : List UInt8), u.length ≤ n → ∀ (i : Nat) (x : Ln), (spl u)[i]? = some x → fnd x.1.data.toList = false ∧ (x.2 = false → i + 1 = (spl u).length ∧ x.1.data.toList ≠ [])
  | n, u, hn, i, x, h => by
    by_cases hu : u = []
    · subst hu; rw [spl_nil] at h; simp at h
    · have hr := rest_lt u hu
      rw [spl_cons u hu] at h ⊢
      cases i with
      | zero =>
        simp only [List.getElem?_cons_zero, Option.some.injEq] at h
        subst h
        refine ⟨fnd_cut u, fun hf => ?_⟩
        simp only at hf
        obtain ⟨h1, h2⟩ := cut_none u hf
        refine ⟨by rw [h2, spl_nil]; rfl, by simp only; rw [h1]; exact hu⟩
      | succ i =>
        simp only [List.getElem?_cons_succ] at h
        match n, hn with
        | 0, hn => omega
        | n + 1, hn =>
          obtain ⟨h1, h2⟩ := spl_line n (rest1 u) (by omega) i x h
          exact ⟨h1, fun hf => ⟨by have := (h2 hf).1; simp only [List.length_cons]; omega, (h2 hf).2⟩⟩
theorem join_spl : ∀ (n : Nat) (u : List UInt8), u.length ≤ n → joinL (spl u) = u
  | n, u, hn => by
    by_cases hu : u = []
    · subst hu; rw [spl_nil]; rfl
    · have hr := rest_lt u hu
      rw [spl_cons u hu]
      match n, hn with
      | 0, hn => omega
      | n + 1, hn =>
        have ih := join_spl n (rest1 u) (by omega)
        have e : joinL ((⟨(cut1 u).toArray⟩, fnd u) :: spl (rest1 u)) = txt (⟨(cut1 u).toArray⟩, fnd u) ++ joinL (spl (rest1 u)) := by simp [joinL]
        rw [e, ih]
        cases hf : fnd u
        · obtain ⟨h1, h2⟩ := cut_none u hf
          simp [txt, h1, h2]
        · have h1 := cut_some u hf
          conv => rhs; rw [h1]
          simp [txt]
theorem spl_size : ∀ (n : Nat) (u : List UInt8), u.length ≤ n → ∀ x ∈ spl u, x.1.size ≤ u.length
  | n, u, hn, x, h => by
    by_cases hu : u = []
    · subst hu; rw [spl_nil] at h; cases h
    · have hr := rest_lt u hu
      rw [spl_cons u hu] at h
      rcases List.mem_cons.1 h with rfl | h
      · have := cut_size u
        simpa [ByteArray.size] using this
      · match n, hn with
        | 0, hn => omega
        | n + 1, hn =>
          have := spl_size n (rest1 u) (by omega) x h
          omega

set_option maxRecDepth 100000 in
set_option maxHeartbeats 8000000 in
theorem backW (t : ByteArray) (w : World) : Calls Try.prog 7 #[.string t] w fun e w' => e = .returned (.bool true) ∧ Below w.heap.size w w' := by
  have HS := Lib.hid (fun w => shown_c w)
  by_cases hb : t.size ≤ 500
  · have t1 : decide ((500 : Int) < (t.size : Int)) = false := by simp; omega
    obtain ⟨s, hs⟩ : ∃ s, s = t.data.toList := ⟨_, rfl⟩
    have ht : t = ⟨s.toArray⟩ := by rw [hs]
    have hl : s.length = t.size := by rw [hs]; simp
    have HP := Lib.hid (fun w => split_c s (by omega) w)
    have HLn := Lib.hid (spl_line s.length s (Nat.le_refl _))
    have hsz := spl_size s.length s (Nat.le_refl _)
    have hjn := join_spl s.length s (Nat.le_refl _)
    have hbn := spl_bound s
    have HJ := Lib.hid (fun q n cap w (h : Lines w q n cap (spl s)) => join_c q n cap (spl s) w (by have := h.len; omega) (fun x hx => by have := hsz x hx; omega) h)
    rw [hjn] at HJ
    rw [← ht] at HP HJ
    have HSZ := Lib.hid hsz
    clear hs ht hjn hsz
    go_enter Try.func7, Try.ntmps7
    go_wp2_with fail
    refine (HS.out _).mono ?_
    rintro e w1 ⟨rfl, hB1⟩
    go_wp2_with fail
    refine (HP.out _).mono ?_
    rintro e w2 ⟨⟨q, n, cap, rfl, hL⟩, hB2⟩
    have b2 := hB1.trans (hB2.mono hB1.size)
    have hlen := hL.len
    have hm := hL.le
    go_wp2_with fail
    go_loop [4] (fun i => ∃ k : Nat, k ≤ n ∧ i = .int .i64 k) (fun i => n - (RowKit.intOf i).toNat)
    case atStart => exact ⟨0, by omega, rfl⟩
    case round =>
      obtain ⟨k, hk, rfl⟩ := hrel
      by_cases hlt : k < n
      · obtain ⟨b, o, rfl⟩ := hL.ptr (by omega)
        obtain ⟨x, hxk⟩ : ∃ x, (spl s)[k]? = some x := ⟨(spl s)[k]'(by omega), List.getElem?_eq_getElem (by omega)⟩
        obtain ⟨c0, c1⟩ := hL.cell b o rfl k x hxk
        obtain ⟨hno, hend⟩ := HLn.out k x hxk
        have has := HSZ.out x (List.mem_of_getElem? hxk)
        obtain ⟨a, f⟩ := x
        simp only at c0 c1 hno hend has
        have hki : (k : Int) < n := by omega
        have HN : Hid (∀ j (h : j < a.size), ((a[j].toNat : Int) == 10) = false) := Lib.hid (fun j h => by
          rw [beq_eq_false_iff_ne]
          intro e
          have hm : a[j] ∈ a.data.toList := by
            have : a[j] = a.data[j] := rfl
            rw [this]; exact Array.mem_toList_iff.2 (Array.getElem_mem ..)
          have : (a[j] == 10) = false := by
            have := hno
            unfold fnd at this
            rw [List.any_eq_false] at this
            simpa using this _ hm
          rw [beq_eq_false_iff_ne] at this
          exact this (UInt8.toNat_inj.1 (by have h2 : a[j].toNat = 10 := by omega
                                            rw [h2]; rfl)))
        have HEnd := Lib.hid hend
        clear hno hend hxk hL
        go_wp2_with fail
        go_loop [5] (fun i => ∃ j : Nat, j ≤ a.size ∧ i = .int .i64 j) (fun i => a.size - (RowKit.intOf i).toNat)
        case atStart => exact ⟨0, by omega, rfl⟩
        case round =>
          obtain ⟨j, hj, rfl⟩ := hrel
          by_cases hlj : j < a.size
          · have hq := HN.out j hlj
            have hji : (j : Int) < a.size := by omega
            go_wp2
            go_round
            case rel => exact ⟨j + 1, by omega, by simp⟩
            case measure => (simp [RowKit.intOf]) <;> omega
          · obtain rfl : j = a.size := by omega
            have hlt1 : ((a.size : Int) < a.size) = False := by simp
            cases f
            · obtain ⟨h1, h2⟩ := HEnd.out rfl
              have e1 : a.toList.isEmpty = false := by rw [Lib.toList_data]; cases h : a.data.toList <;> simp_all
              have e2 : (!a.toList.isEmpty) = true := by rw [e1]; rfl
              have e3 : ¬ a.toList = [] := by rw [Lib.toList_data]; exact h2
              have ew : IntKind.i64.wrap ((n : Int) - 1) = (n : Int) - 1 := by simp [IntKind.wrap, IntKind.signed, IntKind.bits]; omega
              have hdk : decide ((k : Int) < (n : Int) - 1) = false := by simp; omega
              clear h1 h2
              go_wp2
              go_round
              case rel => exact ⟨k + 1, by omega, by simp⟩
              case measure => (simp [RowKit.intOf]) <;> omega
            · go_wp2
              go_round
              case rel => exact ⟨k + 1, by omega, by simp⟩
              case measure => (simp [RowKit.intOf]) <;> omega
      · obtain rfl : k = n := by omega
        have hlt1 : ((k : Int) < k) = False := by simp
        go_wp2_with fail
        refine (HJ.out _ _ _ _ hL).mono ?_
        rintro e w3 ⟨rfl, hB3⟩
        have b3 := b2.trans (hB3.mono b2.size)
        go_wp2
        go_ret
        exact ⟨by simp, b3⟩
  · have t1 : decide ((500 : Int) < (t.size : Int)) = true := by simp; omega
    go_enter Try.func7, Try.ntmps7
    go_wp2_with fail
    refine (HS.out _).mono ?_
    rintro e w1 ⟨rfl, hB1⟩
    go_wp2
    go_ret
    exact ⟨rfl, hB1⟩

end Go.Proofs.Ytkdnnhjoeaoihaa
