/- EreShows: the document's own answer. -/
import Derived.Test.YtdjcgjkbecncaaaGreatDoorJBtN
import Derived.Test.YtdjcgjkbecncaaaGreatDoorJEqJ
import Derived.Test.YtdjcgjkbecncaaaGreatDoorJEqD
import Derived.Test.YtdjcgjkbecncaaaGreatDoorJEpB
import Derived.Test.YtdjcgjkbecncaaaGreatDoorJRxLe
import Derived.Test.YtdjcgjkbecncaaaGreatDoorJEqR
set_option linter.unusedVariables false
set_option linter.unusedSimpArgs false
set_option maxRecDepth 100000
set_option maxHeartbeats 40000000
namespace Go.Proofs.YtdjcgjkbecncaaaGreatDoor
open Go.RowKit Go.Lib
theorem basic_no {c : UInt8} (h : c ∉ ([46, 91, 92, 40, 41, 42, 43, 63, 123, 125, 124, 94, 36] : List UInt8)) : c ∉ ([46, 91, 92, 42, 94, 36] : List UInt8) := fun e => h (by
 simp only [List.mem_cons, List.not_mem_nil, or_false] at e
 rcases e with rfl | rfl | rfl | rfl | rfl | rfl <;> decide)
theorem respecial_c (c : Nat) (hc : c < 256) (w : World) :
  Calls Tryz.prog 53 #[.int .u8 (c : Int), .string ⟨#[46, 91, 92, 40, 41, 42, 43, 63, 123, 125, 124, 94, 36]⟩] w fun e w' => e = .returned (.string ⟨(showE1 (UInt8.ofNat c)).toArray⟩) ∧ Below w.heap.size w w' := by
 have HI := Lib.hid fun w => rin_c [46, 91, 92, 40, 41, 42, 43, 63, 123, 125, 124, 94, 36] (by decide) c hc w
 have hco : (UInt8.ofNat c).toNat = c := by rw [UInt8.toNat_ofNat']; omega
 have HC := Lib.hid fun b W h => rconv1 c hc b W h
 have hal : ∀ T, Below w.heap.size w (w.alloc (.cells #[.int .u8 (c : Int)] T)) := fun T => (Below.refl _ w).alloc (Nat.le_refl _) _
 by_cases h10 : c = 10
 ·subst h10
  have hr : showE1 (UInt8.ofNat 10) = [92, 110] := by decide
  rw [hr]
  clear hr HI HC
  go_enter Tryz.func53, Tryz.ntmps53
  go_wp2
  go_ret
  exact ⟨rfl, Below.refl _ _⟩
 ·have hq : ((c : Int) == 10) = false := by rw [beq_eq_false_iff_ne]; omega
  have h10' : ¬ UInt8.ofNat c = 10 := fun e => h10 (by have := congrArg UInt8.toNat e; rw [hco] at this; exact this)
  have hin : inL [46, 91, 92, 40, 41, 42, 43, 63, 123, 125, 124, 94, 36] c = decide (UInt8.ofNat c ∈ ([46, 91, 92, 40, 41, 42, 43, 63, 123, 125, 124, 94, 36] : List UInt8)) := by
   unfold inL
   rw [Bool.eq_iff_iff, List.any_eq_true, decide_eq_true_iff]
   constructor
   ·rintro ⟨b, hb, e⟩
    have : b = UInt8.ofNat c := UInt8.toNat_inj.1 (by rw [hco]; simpa using e)
    rw [← this]; exact hb
   ·intro h
    exact ⟨_, h, by simp [hco]⟩
  rw [hin] at HI
  by_cases hm : UInt8.ofNat c ∈ ([46, 91, 92, 40, 41, 42, 43, 63, 123, 125, 124, 94, 36] : List UInt8)
  ·have hr : showE1 (UInt8.ofNat c) = [92, UInt8.ofNat c] := by unfold showE1 quotE; rw [if_pos hm]
   rw [decide_eq_true hm] at HI
   rw [hr]
   clear hr hin hm h10'
   go_enter Tryz.func53, Tryz.ntmps53
   go_wp2_with fail
   refine (HI.out _).mono ?_
   rintro e w1 ⟨rfl, hB1⟩
   have hcv := HC.out w1.heap.size (w1.alloc (.cells #[.int .u8 (c : Int)] 5)) (cell_of _ _ _ _ (heap_new w1 _) 0)
   have hb := hB1.alloc hB1.size (.cells #[.int .u8 (c : Int)] 5)
   clear HI HC hB1
   go_wp2
   go_ret
   exact ⟨rfl, hb⟩
  ·have hr : showE1 (UInt8.ofNat c) = [UInt8.ofNat c] := by unfold showE1 quotE showOneP; rw [if_neg hm, if_neg h10', if_neg (basic_no hm)]
   rw [decide_eq_false hm] at HI
   rw [hr]
   clear hr hin hm h10'
   go_enter Tryz.func53, Tryz.ntmps53
   go_wp2_with fail
   refine (HI.out _).mono ?_
   rintro e w1 ⟨rfl, hB1⟩
   have hcv := HC.out w1.heap.size (w1.alloc (.cells #[.int .u8 (c : Int)] 5)) (cell_of _ _ _ _ (heap_new w1 _) 0)
   have hb := hB1.alloc hB1.size (.cells #[.int .u8 (c : Int)] 5)
   clear HI HC hB1
   go_wp2
   go_ret
   exact ⟨rfl, hb⟩
theorem reshown_c (F : Nat → Bool) (w : World) :
  Calls Tryz.prog 27 #[bv F, .string ⟨#[46, 91, 92, 40, 41, 42, 43, 63, 123, 125, 124, 94, 36]⟩] w fun e w' => e = .returned (.string ⟨(showE F).toArray⟩) ∧ Below w.heap.size w w' := by
 have hsz := fun w => rszL_c F w
 have hby := fun w => rbytes_c F w
 have hls := fun w => rlist_c F w
 have h0 := Row.new w F
 have hb0 : Below w.heap.size w (w.alloc (.cells (barr F) 28)) := (Below.refl _ w).alloc (Nat.le_refl _) _
 have hbl := bytesL_len F
 have hbe : bytesOf F = ⟨(bytesL F).toArray⟩ := by unfold bytesL; simp
 rw [hbe] at hby
 obtain ⟨n, hn⟩ : ∃ n, n = cnt F 256 := ⟨_, rfl⟩
 have hcn := cnt_le F 256
 have HS0 : n = 0 → showE F = [] := fun h => by unfold showE; rw [if_neg (by omega)]; unfold showP; rw [if_pos (by omega)]
 have HS1 : n = 1 → ∀ c, bytesL F = [c] → showE F = showE1 c := fun h c hc => by unfold showE; rw [if_pos (by omega), hc]
 have HS2 : n = 256 → showE F = [46] := fun h => by unfold showE; rw [if_neg (by omega)]; unfold showP; rw [if_neg (by omega), if_neg (by omega), if_pos (by omega)]
 have HS3 : n ≠ 0 → n ≠ 1 → n ≠ 256 → showE F = refList F := fun a b c => by unfold showE; rw [if_neg (by omega)]; exact (refShown_eq F (by omega) (by omega) (by omega)).symm
 rw [← hn] at hsz hbl hcn
 obtain ⟨R, hR⟩ : ∃ R, R = showE F := ⟨_, rfl⟩
 rw [← hR] at HS0 HS1 HS2 HS3 ⊢
 obtain ⟨RL, hRL⟩ : ∃ R, R = refList F := ⟨_, rfl⟩
 rw [← hRL] at HS3 hls
 clear hn hR hRL hbe
 rcases (by omega : n = 0 ∨ n = 1 ∨ n = 256 ∨ (n ≠ 0 ∧ n ≠ 1 ∧ n ≠ 256)) with rfl | rfl | rfl | ⟨n0, n1, n2⟩
 ·have HP := Lib.hid (HS0 rfl)
  have HSZ := Lib.hid hsz
  clear hsz hby hls hbl HS0 HS1 HS2 HS3
  unfold bv at HSZ ⊢
  go_enter Tryz.func27, Tryz.ntmps27
  go_wp2
  refine wp_load_row h0 rfl rfl ?_
  go_wp2_with fail
  refine (HSZ.out _).mono ?_
  rintro e w1 ⟨rfl, hB1⟩
  have HB := Lib.hid (hb0.trans (hB1.mono hb0.size))
  go_wp2
  go_ret
  exact ⟨by rw [HP.out]; rfl, HB.out⟩
 ·obtain ⟨c, hc⟩ := List.length_eq_one_iff.1 hbl
  have HP := Lib.hid (HS1 rfl c hc)
  rw [hc] at hby
  have hcl := c.toNat_lt
  have hsp := fun w => respecial_c c.toNat (by omega) w
  have e1 : UInt8.ofNat c.toNat = c := by simp
  rw [e1] at hsp
  have HSZ := Lib.hid hsz
  have HBY := Lib.hid hby
  have HSP := Lib.hid hsp
  have hix := fun W => ixl_c [c] 0 c rfl W
  clear hsz hby hls hbl HS0 HS1 HS2 HS3 hsp e1 hc
  unfold bv at HSZ HBY ⊢
  go_enter Tryz.func27, Tryz.ntmps27
  go_wp2
  refine wp_load_row h0 rfl rfl ?_
  go_wp2_with fail
  refine (HSZ.out _).mono ?_
  rintro e w1 ⟨rfl, hB1⟩
  have h1 := h0.below hB1 h0.lt
  have hb1 := hb0.trans (hB1.mono hb0.size)
  clear HSZ hB1
  go_wp2
  refine wp_load_row h1 rfl rfl ?_
  go_wp2_with fail
  refine (HBY.out _).mono ?_
  rintro e w2 ⟨rfl, hB2⟩
  have hb2 := hb1.trans (hB2.mono hb1.size)
  clear HBY hB2 hb1 h1
  go_wp2_with fail
  refine (HSP.out _).mono ?_
  rintro e w3 ⟨rfl, hB3⟩
  have HB := Lib.hid (hb2.trans (hB3.mono hb2.size))
  clear HSP hB3 hb2
  go_wp2
  go_ret
  exact ⟨by rw [HP.out]; rfl, HB.out⟩
 ·have HP := Lib.hid (HS2 rfl)
  have HSZ := Lib.hid hsz
  clear hsz hby hls hbl HS0 HS1 HS2 HS3
  unfold bv at HSZ ⊢
  go_enter Tryz.func27, Tryz.ntmps27
  go_wp2
  refine wp_load_row h0 rfl rfl ?_
  go_wp2_with fail
  refine (HSZ.out _).mono ?_
  rintro e w1 ⟨rfl, hB1⟩
  have HB := Lib.hid (hb0.trans (hB1.mono hb0.size))
  go_wp2
  go_ret
  exact ⟨by rw [HP.out]; rfl, HB.out⟩
 ·have HP := Lib.hid (HS3 n0 n1 n2)
  have q0 : ((n : Int) == 0) = false := by rw [beq_eq_false_iff_ne]; omega
  have q1 : ((n : Int) == 1) = false := by rw [beq_eq_false_iff_ne]; omega
  have q2 : ((n : Int) == 256) = false := by rw [beq_eq_false_iff_ne]; omega
  have HSZ := Lib.hid hsz
  have HLS := Lib.hid hls
  clear hsz hby hls hbl HS0 HS1 HS2 HS3 n0 n1 n2
  unfold bv at HSZ HLS ⊢
  go_enter Tryz.func27, Tryz.ntmps27
  go_wp2
  refine wp_load_row h0 rfl rfl ?_
  go_wp2_with fail
  refine (HSZ.out _).mono ?_
  rintro e w1 ⟨rfl, hB1⟩
  have h1 := h0.below hB1 h0.lt
  have hb1 := hb0.trans (hB1.mono hb0.size)
  clear HSZ hB1
  go_wp2
  refine wp_load_row h1 rfl rfl ?_
  go_wp2_with fail
  refine (HLS.out _).mono ?_
  rintro e w2 ⟨rfl, hB2⟩
  have HB := Lib.hid (hb1.trans (hB2.mono hb1.size))
  clear HLS hB2 hb1 h1
  go_wp2
  go_ret
  exact ⟨by rw [HP.out]; rfl, HB.out⟩
theorem reshow_c (F : Nat → Bool) (w : World) :
  Calls Tryz.prog 10 #[bv F] w fun e w' => e = .returned (.string ⟨(showE F).toArray⟩) ∧ Below w.heap.size w w' := by
 have HS := Lib.hid fun w => reshown_c F w
 have h0 := Row.new w F
 have hb0 : Below w.heap.size w (w.alloc (.cells (barr F) 28)) := (Below.refl _ w).alloc (Nat.le_refl _) _
 unfold bv at HS ⊢
 go_enter Tryz.func10, Tryz.ntmps10
 go_wp2
 refine wp_load_row h0 rfl rfl ?_
 go_wp2_with fail
 refine (HS.out _).mono ?_
 rintro e w1 ⟨rfl, hB1⟩
 have HB := Lib.hid (hb0.trans (hB1.mono hb0.size))
 go_wp2
 go_ret
 exact ⟨rfl, HB.out⟩
end Go.Proofs.YtdjcgjkbecncaaaGreatDoor
namespace Go.Proofs.YtdjcgjkbecncaaaGreatDoor
open Go.RowKit Go.Lib
theorem showP_congr {F G : Nat → Bool} (h : ∀ i, i < 256 → F i = G i) : showP F = showP G := by
 have hc : cnt F 256 = cnt G 256 := cnt_congr h
 have hb := bytesL_congr h
 have hh : hatDash F = hatDash G := by
  unfold hatDash
  rw [wd_congr (k := 0) (by omega) h, wd_congr (k := 1) (by omega) h, wd_congr (k := 2) (by omega) h, wd_congr (k := 3) (by omega) h]
 have hl : bytesL (leftF F) = bytesL (leftF G) := bytesL_congr (fun i hi => by unfold leftF; rw [h i hi])
 unfold showP listP onlyP
 rw [hc, hb, hh, hl, h 93 (by decide), h 10 (by decide), h 91 (by decide), h 92 (by decide), h 94 (by decide), h 45 (by decide)]
theorem byNd_set (F : Nat → Bool) : ∀ i, i < 256 → (byNd F).set i = F i := by
 obtain ⟨a0, a1, a2, a3⟩ := ofWords_wd (wd_lt F 0) (wd_lt F 1) (wd_lt F 2) (wd_lt F 3)
 refine wd_inj (fun k hk => ?_)
 rcases (by omega : k = 0 ∨ k = 1 ∨ k = 2 ∨ k = 3) with rfl | rfl | rfl | rfl
 ·exact a0
 ·exact a1
 ·exact a2
 ·exact a3
end Go.Proofs.YtdjcgjkbecncaaaGreatDoor
namespace Go.Proofs.YtdjcgjkbecncaaaGreatDoor
open Go.RowKit Go.Lib
theorem showE_congr {F G : Nat → Bool} (h : ∀ i, i < 256 → F i = G i) : showE F = showE G := by
 unfold showE
 rw [cnt_congr h, bytesL_congr h, showP_congr h]
theorem eshow_read (F : Nat → Bool) (h : cnt F 256 ≠ 0) : ereP (showE F) = .ok [byNd F] := by
 have hn := none_no h (fun i _ => rfl)
 have ht : textE (.leaf (byNd F)) = showE F := by
  unfold textE
  rw [if_pos (show (byNd F).kind = 1 from rfl)]
  exact showE_congr (byNd_set F)
 have hc : Can5 2 (.leaf (byNd F)) := ⟨isNd_byNd hn, byNd_fits F, .inl rfl⟩
 have htt := tree_text hc trivial (show 0 ≤ 9 by omega)
 rw [ht] at htt
 have hne : showE F ≠ [] := by
  intro e
  rw [e] at htt
  cases htt
 have hb := ere_tree (showE F) hne
 rw [htt] at hb
 exact hb
theorem eparse_rowp (s : List UInt8) (l : List Nd) (hs : s.length ≤ 99990) (h1 : 1 ≤ l.length) (hq : ereP s = .ok l) (w : World) (hw : Fit5 w) :
  Calls Tryz.prog 13 #[.string ⟨s.toArray⟩] w fun e w' => (∃ b o n cap, e = .returned (.tuple #[.slice (some ⟨b, o, none⟩) n cap, .int .i64 0, .int .i64 0]) ∧ Row15 w' l b o n cap) ∧ Below w.heap.size w w' := by
 obtain ⟨t, ht⟩ := ere_ok hq
 exact eparse_row s hs l hq t ht w hw
theorem eshows_c (F : Nat → Bool) (w : World) (hw : Fit5 w) :
  Calls Tryz.prog 3 #[sv F] w fun e w' => e = .returned (.bool true) ∧ Below w.heap.size w w' := by
 obtain ⟨w0, hw0⟩ : ∃ w0, w0 = w.alloc (.cells #[.int .u64 (wd F 0), .int .u64 (wd F 1), .int .u64 (wd F 2), .int .u64 (wd F 3)] 24) := ⟨_, rfl⟩
 have b0 : Below w.heap.size w w0 := by rw [hw0]; exact (Below.refl _ w).alloc (Nat.le_refl _) _
 have hS0 : SB4 w.heap.size F w0 := by rw [hw0]; exact SB4.new hw.f.fit
 have f0 : Fit5 w0 := hw.below b0
 have hsh := fun w hw => eshow_c F w hw
 have hto := fun w => told0_c F w
 have hrs := fun w => reshow_c F w
 have hsz := fun w => size_c F w
 have hlen := showE_len F
 have hes := fun w => eq_set F w
 obtain ⟨S, hS⟩ : ∃ B : ByteArray, B = ⟨(showE F).toArray⟩ := ⟨_, rfl⟩
 have hSd : S.data.toList = showE F := by rw [hS]
 rw [← hS] at hsh hrs
 have hcn := cnt_le F 256
 have HSH := Lib.hid hsh
 have HTO := Lib.hid hto
 have HRS := Lib.hid hrs
 have HSZ := Lib.hid hsz
 have HSN := Lib.hid fun w hw => shown5_c w hw
 have HW := Lib.hid hw0
 have B0 := Lib.hid b0
 have S0 := Lib.hid hS0
 have F0 := Lib.hid f0
 by_cases hc : cnt F 256 = 0
 ·have hse : S = ⟨#[]⟩ := by
   apply Go.WideShapes.bytes_inj
   rw [hSd]
   unfold showE
   rw [if_neg (by omega)]
   unfold showP
   rw [if_pos hc]
  rw [hc] at HSZ
  have hpar := fun w (hw : Fit5 w) => eparse_rowp [] [kindNd 0] (by decide) (by decide) rfl w hw
  have HP := Lib.hid hpar
  subst hse
  clear hsh hto hrs hsz hw0 b0 hS0 f0 hS hSd hc hpar hw
  unfold sv at HSH HTO HSZ ⊢
  go_enter Tryz.func3, Tryz.ntmps3
  go_wp2_with fail
  rw [← HW.out]
  clear HW
  have z0 := S0.out.a.c0
  have z1 := S0.out.a.c1
  have z2 := S0.out.a.c2
  have z3 := S0.out.a.c3
  go_wp2_with fail
  refine (HSH.out _ S0.out.fit).mono ?_
  rintro e w1 ⟨rfl, hB1⟩
  have S1 := Lib.hid (S0.out.below hB1)
  have F1 := Lib.hid (F0.out.below hB1)
  have B1 := Lib.hid (B0.out.trans (hB1.mono B0.out.size))
  clear S0 F0 B0 hB1 z0 z1 z2 z3 HSH
  have z0 := S1.out.a.c0
  have z1 := S1.out.a.c1
  have z2 := S1.out.a.c2
  have z3 := S1.out.a.c3
  go_wp2_with fail
  refine (HTO.out _).mono ?_
  rintro e w2 ⟨rfl, hB2⟩
  have S2 := Lib.hid (S1.out.below hB2)
  have F2 := Lib.hid (F1.out.below hB2)
  have B2 := Lib.hid (B1.out.trans (hB2.mono B1.out.size))
  clear S1 F1 B1 hB2 z0 z1 z2 z3 HTO
  go_wp2_with fail
  refine (HRS.out _).mono ?_
  rintro e w3 ⟨rfl, hB3⟩
  have S3 := Lib.hid (S2.out.below hB3)
  have F3 := Lib.hid (F2.out.below hB3)
  have B3 := Lib.hid (B2.out.trans (hB3.mono B2.out.size))
  clear S2 F2 B2 hB3 HRS
  go_wp2_with fail
  refine (HSN.out _ F3.out).mono ?_
  rintro e w4 ⟨rfl, hB4⟩
  have S4 := Lib.hid (S3.out.below hB4)
  have F4 := Lib.hid (F3.out.below hB4)
  have B4 := Lib.hid (B3.out.trans (hB4.mono B3.out.size))
  clear S3 F3 B3 hB4 HSN
  go_wp2_with fail
  refine (HP.out _ F4.out).mono ?_
  rintro e w5 ⟨⟨b, o, n, cap, rfl, r5⟩, hB5⟩
  have S5 := Lib.hid (S4.out.below hB5)
  have B5 := Lib.hid (B4.out.trans (hB5.mono B4.out.size))
  clear S4 F4 B4 hB5 HP r5
  have z0 := S5.out.a.c0
  have z1 := S5.out.a.c1
  have z2 := S5.out.a.c2
  have z3 := S5.out.a.c3
  go_wp2_with fail
  refine (HSZ.out _).mono ?_
  rintro e w6 ⟨rfl, hB6⟩
  have B6 := Lib.hid (B5.out.trans (hB6.mono B5.out.size))
  clear S5 B5 hB6 HSZ z0 z1 z2 z3
  go_wp2
  go_ret
  exact ⟨rfl, B6.out⟩
 ·have hse : S = ⟨(showE F).toArray⟩ := hS
  have hpl := eshow_read F hc
  have hpar := fun w (hw : Fit5 w) => eparse_rowp (showE F) [byNd F] (by omega) (show 1 ≤ 1 by omega) hpl w hw
  rw [← hS] at hpar
  have HP := Lib.hid hpar
  have hcz : (((cnt F 256 : Nat) : Int) == 0) = false := by rw [beq_eq_false_iff_ne]; omega
  generalize cnt F 256 = nn at *
  clear hsh hto hrs hsz hw0 b0 hS0 f0 hS hSd hc hpar hw hse hpl
  unfold sv at HSH HTO HSZ ⊢
  go_enter Tryz.func3, Tryz.ntmps3
  go_wp2_with fail
  rw [← HW.out]
  clear HW
  have z0 := S0.out.a.c0
  have z1 := S0.out.a.c1
  have z2 := S0.out.a.c2
  have z3 := S0.out.a.c3
  go_wp2_with fail
  refine (HSH.out _ S0.out.fit).mono ?_
  rintro e w1 ⟨rfl, hB1⟩
  have S1 := Lib.hid (S0.out.below hB1)
  have F1 := Lib.hid (F0.out.below hB1)
  have B1 := Lib.hid (B0.out.trans (hB1.mono B0.out.size))
  clear S0 F0 B0 hB1 z0 z1 z2 z3 HSH
  have z0 := S1.out.a.c0
  have z1 := S1.out.a.c1
  have z2 := S1.out.a.c2
  have z3 := S1.out.a.c3
  go_wp2_with fail
  refine (HTO.out _).mono ?_
  rintro e w2 ⟨rfl, hB2⟩
  have S2 := Lib.hid (S1.out.below hB2)
  have F2 := Lib.hid (F1.out.below hB2)
  have B2 := Lib.hid (B1.out.trans (hB2.mono B1.out.size))
  clear S1 F1 B1 hB2 z0 z1 z2 z3 HTO
  go_wp2_with fail
  refine (HRS.out _).mono ?_
  rintro e w3 ⟨rfl, hB3⟩
  have S3 := Lib.hid (S2.out.below hB3)
  have F3 := Lib.hid (F2.out.below hB3)
  have B3 := Lib.hid (B2.out.trans (hB3.mono B2.out.size))
  clear S2 F2 B2 hB3 HRS
  go_wp2_with fail
  refine (HSN.out _ F3.out).mono ?_
  rintro e w4 ⟨rfl, hB4⟩
  have S4 := Lib.hid (S3.out.below hB4)
  have F4 := Lib.hid (F3.out.below hB4)
  have B4 := Lib.hid (B3.out.trans (hB4.mono B3.out.size))
  clear S3 F3 B3 hB4 HSN
  go_wp2_with fail
  refine (HP.out _ F4.out).mono ?_
  rintro e w5 ⟨⟨b, o, n, cap, rfl, r5⟩, hB5⟩
  have S5 := Lib.hid (S4.out.below hB5)
  have B5 := Lib.hid (B4.out.trans (hB5.mono B4.out.size))
  have R5 := Lib.hid r5
  clear S4 F4 B4 hB5 HP r5
  have z0 := S5.out.a.c0
  have z1 := S5.out.a.c1
  have z2 := S5.out.a.c2
  have z3 := S5.out.a.c3
  go_wp2_with fail
  refine (HSZ.out _).mono ?_
  rintro e w6 ⟨rfl, hB6⟩
  have S6 := Lib.hid (S5.out.below hB6)
  have B6 := Lib.hid (B5.out.trans (hB6.mono B5.out.size))
  have hx := (R5.out.below hB6).x.cell 0 _ rfl
  have hn1 : 1 = n := R5.out.len
  subst hn1
  clear S5 B5 hB6 HSZ z0 z1 z2 z3 R5
  have z0 := S6.out.a.c0
  have z1 := S6.out.a.c1
  have z2 := S6.out.a.c2
  have z3 := S6.out.a.c3
  have d0 : w6.cell? ⟨b, o, none⟩ = some (.int .i64 1) := by simpa using hx 0 (.int .i64 1) rfl
  have d1 : w6.cell? ⟨b, o + 1, none⟩ = some (.int .u64 (wd F 0)) := by simpa using hx 1 (.int .u64 (wd F 0)) rfl
  have d2 : w6.cell? ⟨b, o + 2, none⟩ = some (.int .u64 (wd F 1)) := by simpa using hx 2 (.int .u64 (wd F 1)) rfl
  have d3 : w6.cell? ⟨b, o + 3, none⟩ = some (.int .u64 (wd F 2)) := by simpa using hx 3 (.int .u64 (wd F 2)) rfl
  have d4 : w6.cell? ⟨b, o + 4, none⟩ = some (.int .u64 (wd F 3)) := by simpa using hx 4 (.int .u64 (wd F 3)) rfl
  clear hx
  go_wp2_with fail
  go_quiet (fail)
  go_wp2
  go_ret
  exact ⟨rfl, Go.below_drewN B6.out _⟩
end Go.Proofs.YtdjcgjkbecncaaaGreatDoor
