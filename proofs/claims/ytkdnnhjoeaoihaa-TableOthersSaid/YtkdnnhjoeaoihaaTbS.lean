/- The walks of TableTells, TableOthers, TableAgain. -/
import Derived.Test.YtkdnnhjoeaoihaaTbP
namespace Go.Proofs.Ytkdnnhjoeaoihaa
open Go.RowKit Go.Shelf
set_option linter.unusedVariables false
set_option linter.unusedSimpArgs false

theorem bnd_n {xs : List Fl} (h : bnd xs = true) : xs.length ≤ 40 ∧ ∀ x ∈ xs, x.1.size ≤ 100 ∧ x.2.size ≤ 300 := by
  simp only [bnd, Bool.and_eq_true, decide_eq_true_eq] at h
  refine ⟨h.2, fun x hx => ?_⟩
  have := List.all_eq_true.1 h.1 x hx
  simpa [okF] using this

set_option maxRecDepth 100000 in
set_option maxHeartbeats 8000000 in
theorem tellsW (nm : ByteArray) (p : Option Addr) (n cap : Nat) (xs : List Fl) (w : World) (h : Files w p n cap xs) :
    Calls Try.prog 3 #[.slice p n cap, .string nm] w fun e w' => e = .returned (.bool true) ∧ Below w.heap.size w w' := by
  have HS := Lib.hid (fun w => shown_c w)
  have HBd := Lib.hid (fun w h => bounded_c p n cap xs w h)
  have hlen := h.len
  have hm := h.le
  have hm2 := h.capm
  unfold maxLen at hm2
  cases hb : bnd xs
  · rw [hb] at HBd
    go_enter Try.func3, Try.ntmps3
    go_wp2_with fail
    refine (HBd.out _ h).mono ?_
    rintro e w' ⟨rfl, rfl⟩
    go_wp2_with fail
    refine (HS.out _).mono ?_
    rintro e w1 ⟨rfl, hB1⟩
    go_wp2
    go_ret
    exact ⟨rfl, hB1⟩
  · rw [hb] at HBd
    obtain ⟨hn, hx⟩ := bnd_n hb
    rw [hlen] at hn
    by_cases h1 : nm.size ≤ 100
    · have t1 : decide ((100 : Int) < (nm.size : Int)) = false := by simp; omega
      clear hx hb
      obtain ⟨g, hg⟩ : ∃ g, g = getF xs nm := ⟨_, rfl⟩
      have HG := Lib.hid (fun w h => get_c p n cap xs nm w h)
      have HRG := Lib.hid (fun q n cap w h => rget_c q n cap xs nm w h)
      have HI := Lib.hid (fun w h => its_c p n cap xs w (by omega) h)
      have HM := Lib.hid (fun w h => may_c p n cap xs w h)
      have HRM := Lib.hid (fun q n cap w h => rmay_c q n cap xs w h)
      rw [← hg] at HG HRG
      obtain ⟨m, hmm⟩ : ∃ m, m = mayB [] xs := ⟨_, rfl⟩
      rw [← hmm] at HM HRM
      obtain ⟨g1, g2⟩ := g
      simp only at HG HRG
      clear hg hmm
      go_enter Try.func3, Try.ntmps3
      go_wp2_with fail
      refine (HBd.out _ h).mono ?_
      rintro e w' ⟨rfl, rfl⟩
      go_wp2_with fail
      refine (HS.out _).mono ?_
      rintro e w1 ⟨rfl, hB1⟩
      have b1 := hB1
      have f1 := h.beside b1
      go_wp2_with fail
      refine (HG.out _ f1).mono ?_
      rintro e w2 ⟨rfl, hB2⟩
      have b2 := b1.trans (hB2.mono b1.size)
      have f2 := h.beside b2
      go_wp2_with fail
      refine (HI.out _ f2).mono ?_
      rintro e w3 ⟨⟨q3, cap3, rfl, hF3⟩, hB3⟩
      have b3 := b2.trans (hB3.mono b2.size)
      go_wp2_with fail
      refine (HRG.out _ _ _ _ hF3).mono ?_
      rintro e w' ⟨rfl, rfl⟩
      have f3 := h.beside b3
      go_wp2_with fail
      refine (HM.out _ f3).mono ?_
      rintro e w4 ⟨rfl, hB4⟩
      have b4 := b3.trans (hB4.mono b3.size)
      have f4 := h.beside b4
      go_wp2_with fail
      refine (HI.out _ f4).mono ?_
      rintro e w5 ⟨⟨q5, cap5, rfl, hF5⟩, hB5⟩
      have b5 := b4.trans (hB5.mono b4.size)
      go_wp2_with fail
      refine (HRM.out _ _ _ _ hF5).mono ?_
      rintro e w6 ⟨rfl, hB6⟩
      have b6 := b5.trans (hB6.mono b5.size)
      go_wp2
      go_ret
      exact ⟨by cases m <;> cases g2 <;> simp, b6⟩
    · have t1 : decide ((100 : Int) < (nm.size : Int)) = true := by simp; omega
      go_enter Try.func3, Try.ntmps3
      go_wp2_with fail
      refine (HBd.out _ h).mono ?_
      rintro e w' ⟨rfl, rfl⟩
      go_wp2_with fail
      refine (HS.out _).mono ?_
      rintro e w1 ⟨rfl, hB1⟩
      go_wp2
      go_ret
      exact ⟨rfl, hB1⟩

set_option maxRecDepth 100000 in
set_option maxHeartbeats 8000000 in
theorem othersW (nm dt ot : ByteArray) (p : Option Addr) (n cap : Nat) (xs : List Fl) (w : World) (h : Files w p n cap xs) :
    Calls Try.prog 5 #[.slice p n cap, .string nm, .string dt, .string ot] w fun e w' => e = .returned (.bool true) ∧ Below w.heap.size w w' := by
  have HS := Lib.hid (fun w => shown_c w)
  have HBd := Lib.hid (fun w h => bounded_c p n cap xs w h)
  have hlen := h.len
  have hm := h.le
  have hm2 := h.capm
  unfold maxLen at hm2
  have HM := Lib.hid (fun w h => may_c p n cap xs w h)
  cases hb : bnd xs
  · rw [hb] at HBd
    go_enter Try.func5, Try.ntmps5
    go_wp2_with fail
    refine (HBd.out _ h).mono ?_
    rintro e w' ⟨rfl, rfl⟩
    go_wp2_with fail
    refine (HS.out _).mono ?_
    rintro e w1 ⟨rfl, hB1⟩
    go_wp2
    go_ret
    exact ⟨rfl, hB1⟩
  rw [hb] at HBd
  obtain ⟨hn, hx⟩ := bnd_n hb
  rw [hlen] at hn
  clear hx hb
  by_cases h1 : nm.size ≤ 100
  rotate_left
  · have t1 : decide ((100 : Int) < (nm.size : Int)) = true := by simp; omega
    go_enter Try.func5, Try.ntmps5
    go_wp2_with fail
    refine (HBd.out _ h).mono ?_
    rintro e w' ⟨rfl, rfl⟩
    go_wp2_with fail
    refine (HS.out _).mono ?_
    rintro e w1 ⟨rfl, hB1⟩
    go_wp2
    go_ret
    exact ⟨rfl, hB1⟩
  have th1 : decide ((100 : Int) < (nm.size : Int)) = false := by simp; omega
  by_cases h2 : dt.size ≤ 300
  rotate_left
  · have t1 : decide ((300 : Int) < (dt.size : Int)) = true := by simp; omega
    go_enter Try.func5, Try.ntmps5
    go_wp2_with fail
    refine (HBd.out _ h).mono ?_
    rintro e w' ⟨rfl, rfl⟩
    go_wp2_with fail
    refine (HS.out _).mono ?_
    rintro e w1 ⟨rfl, hB1⟩
    go_wp2
    go_ret
    exact ⟨rfl, hB1⟩
  have th2 : decide ((300 : Int) < (dt.size : Int)) = false := by simp; omega
  by_cases h3 : ot.size ≤ 100
  rotate_left
  · have t1 : decide ((100 : Int) < (ot.size : Int)) = true := by simp; omega
    go_enter Try.func5, Try.ntmps5
    go_wp2_with fail
    refine (HBd.out _ h).mono ?_
    rintro e w' ⟨rfl, rfl⟩
    go_wp2_with fail
    refine (HS.out _).mono ?_
    rintro e w1 ⟨rfl, hB1⟩
    go_wp2
    go_ret
    exact ⟨rfl, hB1⟩
  have th3 : decide ((100 : Int) < (ot.size : Int)) = false := by simp; omega
  by_cases he : nm.toList = []
  · have e1 : nm.toList.isEmpty = true := by rw [he]; rfl
    have e2 : (!nm.toList.isEmpty) = false := by rw [e1]; rfl
    go_enter Try.func5, Try.ntmps5
    go_wp2_with fail
    refine (HBd.out _ h).mono ?_
    rintro e w' ⟨rfl, rfl⟩
    go_wp2_with fail
    refine (HS.out _).mono ?_
    rintro e w1 ⟨rfl, hB1⟩
    go_wp2
    go_ret
    exact ⟨rfl, hB1⟩
  have e1 : nm.toList.isEmpty = false := by cases h : nm.toList <;> simp_all
  have e2 : (!nm.toList.isEmpty) = true := by rw [e1]; rfl
  cases hq : (ot.toList == nm.toList)
  rotate_left
  · skip
    go_enter Try.func5, Try.ntmps5
    go_wp2_with fail
    refine (HBd.out _ h).mono ?_
    rintro e w' ⟨rfl, rfl⟩
    go_wp2_with fail
    refine (HS.out _).mono ?_
    rintro e w1 ⟨rfl, hB1⟩
    go_wp2
    go_ret
    exact ⟨rfl, hB1⟩
  cases hmy : mayB [] xs
  · rw [hmy] at HM
    go_enter Try.func5, Try.ntmps5
    go_wp2_with fail
    refine (HBd.out _ h).mono ?_
    rintro e w' ⟨rfl, rfl⟩
    go_wp2_with fail
    refine (HM.out _ h).mono ?_
    rintro e w1 ⟨rfl, hB1⟩
    go_wp2_with fail
    refine (HS.out _).mono ?_
    rintro e w2 ⟨rfl, hB2⟩
    go_wp2
    go_ret
    exact ⟨rfl, hB1.trans (hB2.mono hB1.size)⟩
  rw [hmy] at HM
  have ho : ¬ nm.toList = ot.toList := fun e => by rw [e] at hq; simp at hq
  have g1 := get_put hmy (nm := nm) dt he
  have g2 := get_other hmy (nm := nm) (ot := ot) dt he ho
  have g3 := may_put hmy nm dt
  obtain ⟨T, hT⟩ : ∃ T, T = putF xs nm dt := ⟨_, rfl⟩
  obtain ⟨g, hg⟩ : ∃ g, g = getF xs ot := ⟨_, rfl⟩
  have HP := Lib.hid (fun w h => put_c p n cap xs nm dt w (by omega) h)
  have HG1 := Lib.hid (fun q n cap w h => get_c q n cap T ot w h)
  have HG2 := Lib.hid (fun w h => get_c p n cap xs ot w h)
  have HG3 := Lib.hid (fun q n cap w h => get_c q n cap T nm w h)
  have HMT := Lib.hid (fun q n cap w h => may_c q n cap T w h)
  rw [← hT] at HP g1 g2 g3
  rw [← hg] at g2 HG2
  rw [g1] at HG3
  rw [g2] at HG1
  rw [g3] at HMT
  obtain ⟨ga, gb⟩ := g
  simp only at HG1 HG2 HG3
  clear g1 g2 g3 hg hT hmy ho
  go_enter Try.func5, Try.ntmps5
  go_wp2_with fail
  refine (HBd.out _ h).mono ?_
  rintro e w' ⟨rfl, rfl⟩
  go_wp2_with fail
  refine (HM.out _ h).mono ?_
  rintro e w1 ⟨rfl, hB1⟩
  have b1 := hB1
  go_wp2_with fail
  refine (HS.out _).mono ?_
  rintro e w2 ⟨rfl, hB2⟩
  have b2 := b1.trans (hB2.mono b1.size)
  have f2 := h.beside b2
  go_wp2_with fail
  refine (HP.out _ f2).mono ?_
  rintro e w3 ⟨⟨v3, rfl, hown3⟩, hB3⟩
  have b3 := b2.trans (hB3.mono b2.size)
  obtain ⟨q3, cap3, rfl, hF3, _⟩ := files_of_own hown3
  go_wp2_with fail
  refine (HG1.out _ _ _ _ hF3).mono ?_
  rintro e w4 ⟨rfl, hB4⟩
  have b4 := b3.trans (hB4.mono b3.size)
  have f4 := h.beside b4
  go_wp2_with fail
  refine (HG2.out _ f4).mono ?_
  rintro e w5 ⟨rfl, hB5⟩
  have b5 := b4.trans (hB5.mono b4.size)
  have k5 := (hF3.beside hB4).beside hB5
  go_wp2_with fail
  refine (HG3.out _ _ _ _ k5).mono ?_
  rintro e w6 ⟨rfl, hB6⟩
  have b6 := b5.trans (hB6.mono b5.size)
  have k6 := k5.beside hB6
  go_wp2_with fail
  refine (HMT.out _ _ _ _ k6).mono ?_
  rintro e w7 ⟨rfl, hB7⟩
  have b7 := b6.trans (hB7.mono b6.size)
  go_wp2
  go_ret
  exact ⟨by cases gb <;> simp, b7⟩

set_option maxRecDepth 100000 in
set_option maxHeartbeats 8000000 in
theorem againW (nm a b : ByteArray) (p : Option Addr) (n cap : Nat) (xs : List Fl) (w : World) (h : Files w p n cap xs) :
    Calls Try.prog 8 #[.slice p n cap, .string nm, .string a, .string b] w fun e w' => e = .returned (.bool true) ∧ Below w.heap.size w w' := by
  have HS := Lib.hid (fun w => shown_c w)
  have HBd := Lib.hid (fun w h => bounded_c p n cap xs w h)
  have hlen := h.len
  have hm := h.le
  have hm2 := h.capm
  unfold maxLen at hm2
  have HM := Lib.hid (fun w h => may_c p n cap xs w h)
  cases hb : bnd xs
  · rw [hb] at HBd
    go_enter Try.func8, Try.ntmps8
    go_wp2_with fail
    refine (HBd.out _ h).mono ?_
    rintro e w' ⟨rfl, rfl⟩
    go_wp2_with fail
    refine (HS.out _).mono ?_
    rintro e w1 ⟨rfl, hB1⟩
    go_wp2
    go_ret
    exact ⟨rfl, hB1⟩
  rw [hb] at HBd
  obtain ⟨hn, hx⟩ := bnd_n hb
  rw [hlen] at hn
  clear hb
  by_cases h1 : nm.size ≤ 100
  rotate_left
  · have t1 : decide ((100 : Int) < (nm.size : Int)) = true := by simp; omega
    clear hx
    go_enter Try.func8, Try.ntmps8
    go_wp2_with fail
    refine (HBd.out _ h).mono ?_
    rintro e w' ⟨rfl, rfl⟩
    go_wp2_with fail
    refine (HS.out _).mono ?_
    rintro e w1 ⟨rfl, hB1⟩
    go_wp2
    go_ret
    exact ⟨rfl, hB1⟩
  have th1 : decide ((100 : Int) < (nm.size : Int)) = false := by simp; omega
  by_cases h2 : a.size ≤ 300
  rotate_left
  · have t1 : decide ((300 : Int) < (a.size : Int)) = true := by simp; omega
    clear hx
    go_enter Try.func8, Try.ntmps8
    go_wp2_with fail
    refine (HBd.out _ h).mono ?_
    rintro e w' ⟨rfl, rfl⟩
    go_wp2_with fail
    refine (HS.out _).mono ?_
    rintro e w1 ⟨rfl, hB1⟩
    go_wp2
    go_ret
    exact ⟨rfl, hB1⟩
  have th2 : decide ((300 : Int) < (a.size : Int)) = false := by simp; omega
  by_cases h3 : b.size ≤ 300
  rotate_left
  · have t1 : decide ((300 : Int) < (b.size : Int)) = true := by simp; omega
    clear hx
    go_enter Try.func8, Try.ntmps8
    go_wp2_with fail
    refine (HBd.out _ h).mono ?_
    rintro e w' ⟨rfl, rfl⟩
    go_wp2_with fail
    refine (HS.out _).mono ?_
    rintro e w1 ⟨rfl, hB1⟩
    go_wp2
    go_ret
    exact ⟨rfl, hB1⟩
  have th3 : decide ((300 : Int) < (b.size : Int)) = false := by simp; omega
  cases hmy : mayB [] xs
  · rw [hmy] at HM
    clear hx
    go_enter Try.func8, Try.ntmps8
    go_wp2_with fail
    refine (HBd.out _ h).mono ?_
    rintro e w' ⟨rfl, rfl⟩
    go_wp2_with fail
    refine (HM.out _ h).mono ?_
    rintro e w1 ⟨rfl, hB1⟩
    go_wp2_with fail
    refine (HS.out _).mono ?_
    rintro e w2 ⟨rfl, hB2⟩
    go_wp2
    go_ret
    exact ⟨rfl, hB1.trans (hB2.mono hB1.size)⟩
  rw [hmy] at HM
  have k1 := put_again hmy nm a b
  have k2 := add_again hmy nm a b
  have l1 := put_len xs nm a
  have l2 := put_len xs nm b
  have l3 := put_len xs nm (a ++ b)
  have z1 : ∀ x ∈ putF xs nm a, x.2.size ≤ 100000000 := fun x hx' => by
    rcases put_mem hx' with h | rfl
    · have := (hx x h).2; omega
    · simp only; omega
  have zs : ∀ c : ByteArray, c.size ≤ 600 → ∀ x ∈ putF xs nm c, okS x := fun c hc x hx' => by
    rcases put_mem hx' with h | rfl
    · have := hx x h; unfold okS maxLen; omega
    · unfold okS maxLen; simp only; omega
  have hab : (a ++ b).size ≤ 600 := by rw [ByteArray.size_append]; omega
  have za := zs (a ++ b) hab
  have zb := zs b (by omega)
  have hb3 : (9223372036854775807 < a.size + b.size) = False := by simp; omega
  have hb2 : (9223372036854775807 < (a.size : Int) + (b.size : Int)) = False := by simp; omega
  obtain ⟨ab, hab2⟩ : ∃ ab, ab = a ++ b := ⟨_, rfl⟩
  obtain ⟨A, hA⟩ : ∃ T, T = putF xs nm a := ⟨_, rfl⟩
  obtain ⟨B, hBb⟩ : ∃ T, T = putF xs nm b := ⟨_, rfl⟩
  obtain ⟨C, hC⟩ : ∃ T, T = putF xs nm (a ++ b) := ⟨_, rfl⟩
  have HP1 := Lib.hid (fun w h => put_c p n cap xs nm a w (by omega) h)
  have HP2 := Lib.hid (fun q n cap w h => put_c q n cap A nm b w (by have := Files.len h; rw [hA] at this; omega) h)
  have HP3 := Lib.hid (fun w h => put_c p n cap xs nm b w (by omega) h)
  have HP4 := Lib.hid (fun q n cap w h => add_c q n cap A nm b w (by have := Files.len h; rw [hA] at this; omega) (by rw [hA]; exact z1) (by omega) h)
  have HP5 := Lib.hid (fun w h => put_c p n cap xs nm (a ++ b) w (by omega) h)
  have HI1 := Lib.hid (fun q n cap w h => its_c q n cap B w (by have := Files.len h; rw [hBb] at this; omega) h)
  have HI2 := Lib.hid (fun q n cap w h => its_c q n cap C w (by have := Files.len h; rw [hC] at this; omega) h)
  have HE1 := Lib.hid (fun q n cap q' n' cap' w h h' => same_c q q' n n' cap cap' B B true (by simp) w (by rw [hBb]; exact zb) (by rw [hBb]; exact zb) h h')
  have HE2 := Lib.hid (fun q n cap q' n' cap' w h h' => same_c q q' n n' cap cap' C C true (by simp) w (by rw [hC]; exact za) (by rw [hC]; exact za) h h')
  rw [← hA, ← hBb] at k1
  rw [← hA, ← hC] at k2
  rw [← hA] at HP1
  rw [k1] at HP2
  rw [← hBb] at HP3
  rw [k2] at HP4
  rw [← hC] at HP5
  clear k1 k2 l1 l2 l3 z1 zs za zb hab hab2 hA hBb hC hmy hx
  go_enter Try.func8, Try.ntmps8
  go_wp2_with fail
  refine (HBd.out _ h).mono ?_
  rintro e w' ⟨rfl, rfl⟩
  go_wp2_with fail
  refine (HM.out _ h).mono ?_
  rintro e w1 ⟨rfl, hB1⟩
  have b1 := hB1
  go_wp2_with fail
  refine (HS.out _).mono ?_
  rintro e w2 ⟨rfl, hB2⟩
  have b2 := b1.trans (hB2.mono b1.size)
  have f2 := h.beside b2
  go_wp2_with fail
  refine (HP1.out _ f2).mono ?_
  rintro e w3 ⟨⟨v3, rfl, hown3⟩, hB3⟩
  have b3 := b2.trans (hB3.mono b2.size)
  obtain ⟨q3, cap3, rfl, hF3, _⟩ := files_of_own hown3
  go_wp2_with fail
  refine (HP2.out _ _ _ _ hF3).mono ?_
  rintro e w4 ⟨⟨v4, rfl, hown4⟩, hB4⟩
  have b4 := b3.trans (hB4.mono b3.size)
  obtain ⟨q4, cap4, rfl, hF4, _⟩ := files_of_own hown4
  have f4 := h.beside b4
  go_wp2_with fail
  refine (HP3.out _ f4).mono ?_
  rintro e w5 ⟨⟨v5, rfl, hown5⟩, hB5⟩
  have b5 := b4.trans (hB5.mono b4.size)
  obtain ⟨q5, cap5, rfl, hF5, _⟩ := files_of_own hown5
  have f5 := h.beside b5
  go_wp2_with fail
  refine (HP1.out _ f5).mono ?_
  rintro e w6 ⟨⟨v6, rfl, hown6⟩, hB6⟩
  have b6 := b5.trans (hB6.mono b5.size)
  obtain ⟨q6, cap6, rfl, hF6, _⟩ := files_of_own hown6
  go_wp2_with fail
  refine (HP4.out _ _ _ _ hF6).mono ?_
  rintro e w7 ⟨⟨v7, rfl, hown7⟩, hB7⟩
  have b7 := b6.trans (hB7.mono b6.size)
  obtain ⟨q7, cap7, rfl, hF7, _⟩ := files_of_own hown7
  have f7 := h.beside b7
  go_wp2_with fail
  refine (HP5.out _ f7).mono ?_
  rintro e w8 ⟨⟨v8, rfl, hown8⟩, hB8⟩
  have b8 := b7.trans (hB8.mono b7.size)
  obtain ⟨q8, cap8, rfl, hF8, _⟩ := files_of_own hown8
  have x8 := (((hF4.beside hB5).beside hB6).beside hB7).beside hB8
  go_wp2_with fail
  refine (HI1.out _ _ _ _ x8).mono ?_
  rintro e w9 ⟨⟨q9, cap9, rfl, hF9⟩, hB9⟩
  have b9 := b8.trans (hB9.mono b8.size)
  have y9 := ((((hF5.beside hB6).beside hB7).beside hB8).beside hB9)
  go_wp2_with fail
  refine (HI1.out _ _ _ _ y9).mono ?_
  rintro e w10 ⟨⟨q10, cap10, rfl, hF10⟩, hB10⟩
  have b10 := b9.trans (hB10.mono b9.size)
  have x10 := hF9.beside hB10
  go_wp2_with fail
  refine (HE1.out _ _ _ _ _ _ _ x10 hF10).mono ?_
  rintro e w11 ⟨rfl, hB11⟩
  have b11 := b10.trans (hB11.mono b10.size)
  have z11 := (((hF7.beside hB8).beside hB9).beside hB10).beside hB11
  go_wp2_with fail
  refine (HI2.out _ _ _ _ z11).mono ?_
  rintro e w12 ⟨⟨q12, cap12, rfl, hF12⟩, hB12⟩
  have b12 := b11.trans (hB12.mono b11.size)
  have u12 := (((hF8.beside hB9).beside hB10).beside hB11).beside hB12
  go_wp2_with fail
  refine (HI2.out _ _ _ _ u12).mono ?_
  rintro e w13 ⟨⟨q13, cap13, rfl, hF13⟩, hB13⟩
  have b13 := b12.trans (hB13.mono b12.size)
  have v13 := hF12.beside hB13
  go_wp2_with fail
  refine (HE2.out _ _ _ _ _ _ _ v13 hF13).mono ?_
  rintro e w14 ⟨rfl, hB14⟩
  have b14 := b13.trans (hB14.mono b13.size)
  go_wp2
  go_ret
  exact ⟨rfl, b14⟩

end Go.Proofs.Ytkdnnhjoeaoihaa
