/- The reference's List. -/
import Derived.Test.YthbldjiibgnfmaaGreatDoorZBtMa
import Derived.Test.YthbldjiibgnfmaaGreatDoorZBtMb
import Derived.Test.YthbldjiibgnfmaaGreatDoorZBtBc
import Derived.Test.YthbldjiibgnfmaaGreatDoorZSetJ
namespace Go.Proofs.YthbldjiibgnfmaaGreatDoor
open Go.RowKit

theorem rlist_c (F : Nat → Bool) (w : World) :
    Calls Tryz.prog 45 #[bv F] w fun e w' => e = .returned (.string ⟨(refList F).toArray⟩) ∧ Below w.heap.size w w' := by
  cases h : F 93 with
  | true => exact rlist_a F h w
  | false => exact rlist_b F h w

end Go.Proofs.YthbldjiibgnfmaaGreatDoor

namespace Go.Proofs.YthbldjiibgnfmaaGreatDoor
open Go.RowKit Go.Lib
set_option linter.unusedVariables false
set_option linter.unusedSimpArgs false

theorem bytesL_congr {F G : Nat → Bool} (h : ∀ i, i < 256 → F i = G i) : bytesL F = bytesL G := by
  rw [bytesL_from, bytesL_from]
  unfold bFrom
  congr 1
  apply List.filter_congr
  intro i hi
  have := List.mem_range'_1.1 hi
  exact h i (by omega)
theorem hat_bytes (F : Nat → Bool) : hatDash F = true ↔ bytesL F = [45, 94] := by
  constructor
  · intro h
    rw [bytesL_congr (hat_of h)]
    decide +kernel
  · intro h
    refine hat_iff (fun i hi => ?_)
    rw [← inL_bytes F i hi, h, Bool.eq_iff_iff]
    simp [inL, inS]
    omega
theorem refList_eq (F : Nat → Bool) : refList F = [91] ++ listP F ++ [93] := by
  unfold refList listP
  rw [lst_all]
  cases hh : hatDash F with
  | true =>
    have hb := (hat_bytes F).1 hh
    have hs := hat_of hh
    have z : ∀ c, c < 256 → c ≠ 94 → c ≠ 45 → F c = false := fun c hc h1 h2 => by
      rw [hs c hc]
      simp [inS]
      omega
    have hl : bytesL (leftF F) = [] := by
      have e : bytesL (leftF F) = bytesL (fun _ => false) := bytesL_congr (fun i hi => by
        rw [left_eq, hs i hi, aside_in, Bool.eq_iff_iff]
        simp [inS]
        omega)
      rw [e]
      decide +kernel
    rw [if_pos hb, if_pos rfl, hl]
    simp only [onlyP, z 93 (by decide) (by decide) (by decide), z 10 (by decide) (by decide) (by decide), z 91 (by decide) (by decide) (by decide), z 92 (by decide) (by decide) (by decide)]
    rfl
  | false =>
    have hb : ¬ bytesL F = [45, 94] := fun e => by rw [(hat_bytes F).2 e] at hh; cases hh
    rw [if_neg hb]
    simp
/-- What the reference shows of a set. -/
theorem refShown_eq (F : Nat → Bool) (h0 : cnt F 256 ≠ 0) (h1 : cnt F 256 ≠ 1) (h2 : cnt F 256 ≠ 256) : refList F = showP F := by
  unfold showP
  rw [if_neg h0, if_neg h1, if_neg h2]
  exact refList_eq F

set_option maxRecDepth 100000 in
set_option maxHeartbeats 40000000 in
theorem rshown_c (F : Nat → Bool) (w : World) :
    Calls Tryz.prog 20 #[bv F, .string ⟨#[46, 91, 92, 42, 94, 36]⟩] w fun e w' => e = .returned (.string ⟨(showP F).toArray⟩) ∧ Below w.heap.size w w' := by
  have hsz := fun w => rszL_c F w
  have hby := fun w => rbytes_c F w
  have hls := fun w => rlist_c F w
  have h0 := Row.new w F
  have hb0 : Below w.heap.size w (w.alloc (.cells (barr F) 28)) := (Below.refl _ w).alloc (Nat.le_refl _) _
  have hbl := bytesL_len F
  have hbe : bytesOf F = ⟨(bytesL F).toArray⟩ := by unfold bytesL; simp
  rw [hbe] at hby
  obtain ⟨n, hn⟩ : ∃ n, n = cnt F 256 := ⟨_, rfl⟩
  have hcn := cnt_le F 256
  have HS0 : n = 0 → showP F = [] := fun h => by unfold showP; rw [if_pos (by omega)]
  have HS1 : n = 1 → ∀ c, bytesL F = [c] → showP F = showOneP c := fun h c hc => by unfold showP; rw [if_neg (by omega), if_pos (by omega), hc]
  have HS2 : n = 256 → showP F = [46] := fun h => by unfold showP; rw [if_neg (by omega), if_neg (by omega), if_pos (by omega)]
  have HS3 : n ≠ 0 → n ≠ 1 → n ≠ 256 → showP F = refList F := fun a b c => (refShown_eq F (by omega) (by omega) (by omega)).symm
  rw [← hn] at hsz hbl hcn
  obtain ⟨R, hR⟩ : ∃ R, R = showP F := ⟨_, rfl⟩
  rw [← hR] at HS0 HS1 HS2 HS3 ⊢
  obtain ⟨RL, hRL⟩ : ∃ R, R = refList F := ⟨_, rfl⟩
  rw [← hRL] at HS3 hls
  clear hn hR hRL hbe
  rcases (by omega : n = 0 ∨ n = 1 ∨ n = 256 ∨ (n ≠ 0 ∧ n ≠ 1 ∧ n ≠ 256)) with rfl | rfl | rfl | ⟨n0, n1, n2⟩
  · have HP := Lib.hid (HS0 rfl)
    have HSZ := Lib.hid hsz
    clear hsz hby hls hbl HS0 HS1 HS2 HS3
    unfold bv at HSZ ⊢
    go_enter Tryz.func20, Tryz.ntmps20
    go_wp2
    refine wp_load_row h0 rfl rfl ?_
    go_wp2_with fail
    refine (HSZ.out _).mono ?_
    rintro e w1 ⟨rfl, hB1⟩
    have HB := Lib.hid (hb0.trans (hB1.mono hb0.size))
    go_wp2
    go_ret
    exact ⟨by rw [HP.out]; rfl, HB.out⟩
  · obtain ⟨c, hc⟩ := List.length_eq_one_iff.1 hbl
    have HP := Lib.hid (HS1 rfl c hc)
    rw [hc] at hby
    have hcl := c.toNat_lt
    have hsp := fun w => rspecial_c c.toNat (by omega) w
    have e1 : UInt8.ofNat c.toNat = c := by simp
    rw [e1] at hsp
    have HSZ := Lib.hid hsz
    have HBY := Lib.hid hby
    have HSP := Lib.hid hsp
    have hix := fun W => ixl_c [c] 0 c rfl W
    clear hsz hby hls hbl HS0 HS1 HS2 HS3 hsp e1 hc
    unfold bv at HSZ HBY ⊢
    go_enter Tryz.func20, Tryz.ntmps20
    go_wp2
    refine wp_load_row h0 rfl rfl ?_
    go_wp2_with fail
    refine (HSZ.out _).mono ?_
    rintro e w1 ⟨rfl, hB1⟩
    have h1 := h0.below hB1 h0.lt
    have hb1 := hb0.trans (hB1.mono hb0.size)
    clear HSZ hB1
    go_wp2
    refine wp_load_row h1 rfl rfl ?_
    go_wp2_with fail
    refine (HBY.out _).mono ?_
    rintro e w2 ⟨rfl, hB2⟩
    have hb2 := hb1.trans (hB2.mono hb1.size)
    clear HBY hB2 hb1 h1
    go_wp2_with fail
    refine (HSP.out _).mono ?_
    rintro e w3 ⟨rfl, hB3⟩
    have HB := Lib.hid (hb2.trans (hB3.mono hb2.size))
    clear HSP hB3 hb2
    go_wp2
    go_ret
    exact ⟨by rw [HP.out]; rfl, HB.out⟩
  · have HP := Lib.hid (HS2 rfl)
    have HSZ := Lib.hid hsz
    clear hsz hby hls hbl HS0 HS1 HS2 HS3
    unfold bv at HSZ ⊢
    go_enter Tryz.func20, Tryz.ntmps20
    go_wp2
    refine wp_load_row h0 rfl rfl ?_
    go_wp2_with fail
    refine (HSZ.out _).mono ?_
    rintro e w1 ⟨rfl, hB1⟩
    have HB := Lib.hid (hb0.trans (hB1.mono hb0.size))
    go_wp2
    go_ret
    exact ⟨by rw [HP.out]; rfl, HB.out⟩
  · have HP := Lib.hid (HS3 n0 n1 n2)
    have q0 : ((n : Int) == 0) = false := by rw [beq_eq_false_iff_ne]; omega
    have q1 : ((n : Int) == 1) = false := by rw [beq_eq_false_iff_ne]; omega
    have q2 : ((n : Int) == 256) = false := by rw [beq_eq_false_iff_ne]; omega
    have HSZ := Lib.hid hsz
    have HLS := Lib.hid hls
    clear hsz hby hls hbl HS0 HS1 HS2 HS3 n0 n1 n2
    unfold bv at HSZ HLS ⊢
    go_enter Tryz.func20, Tryz.ntmps20
    go_wp2
    refine wp_load_row h0 rfl rfl ?_
    go_wp2_with fail
    refine (HSZ.out _).mono ?_
    rintro e w1 ⟨rfl, hB1⟩
    have h1 := h0.below hB1 h0.lt
    have hb1 := hb0.trans (hB1.mono hb0.size)
    clear HSZ hB1
    go_wp2
    refine wp_load_row h1 rfl rfl ?_
    go_wp2_with fail
    refine (HLS.out _).mono ?_
    rintro e w2 ⟨rfl, hB2⟩
    have HB := Lib.hid (hb1.trans (hB2.mono hb1.size))
    clear HLS hB2 hb1 h1
    go_wp2
    go_ret
    exact ⟨by rw [HP.out]; rfl, HB.out⟩

set_option maxRecDepth 100000 in
set_option maxHeartbeats 40000000 in
theorem rshow_c (F : Nat → Bool) (w : World) :
    Calls Tryz.prog 7 #[bv F] w fun e w' => e = .returned (.string ⟨(showP F).toArray⟩) ∧ Below w.heap.size w w' := by
  have HS := Lib.hid fun w => rshown_c F w
  have h0 := Row.new w F
  have hb0 : Below w.heap.size w (w.alloc (.cells (barr F) 28)) := (Below.refl _ w).alloc (Nat.le_refl _) _
  unfold bv at HS ⊢
  go_enter Tryz.func7, Tryz.ntmps7
  go_wp2
  refine wp_load_row h0 rfl rfl ?_
  go_wp2_with fail
  refine (HS.out _).mono ?_
  rintro e w1 ⟨rfl, hB1⟩
  have HB := Lib.hid (hb0.trans (hB1.mono hb0.size))
  go_wp2
  go_ret
  exact ⟨rfl, HB.out⟩

end Go.Proofs.YthbldjiibgnfmaaGreatDoor
