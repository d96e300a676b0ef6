/- A list of bytes, as it is shown: showList: the walk. -/
import Derived.Test.YtdjcgjkbecncaaaGreatDoorJBrKb
import Derived.Test.YtdjcgjkbecncaaaGreatDoorJRxB
set_option linter.unusedVariables false
set_option linter.unusedSimpArgs false
set_option maxRecDepth 100000
set_option maxHeartbeats 40000000
namespace Go.Proofs.YtdjcgjkbecncaaaGreatDoor
open Go.RowKit
theorem bytesl_c (f : Nat → Bool) (w : World) (hw : Fit w) : Calls Tryz.prog 24 #[sv f] w fun e w' => e = .returned (.string ⟨(bytesL f).toArray⟩) ∧ Below w.heap.size w w' := by
 refine (bytes_c f w hw.tab hw.pos).mono ?_
 rintro e w' ⟨rfl, hB⟩
 exact ⟨by unfold bytesL; simp, hB⟩
structure SB4 (g : Nat) (F : Nat → Bool) (w : World) : Prop where
 a : FourS w g F
 fit : Fit w
theorem SB4.below {g : Nat} {F : Nat → Bool} {w w' : World} (h : SB4 g F w) (hB : Below w.heap.size w w') : SB4 g F w' := ⟨h.a.below hB h.a.lt, h.fit.below hB⟩
theorem SB4.drew {g : Nat} {F : Nat → Bool} {w : World} (h : SB4 g F w) : SB4 g F w.drew := h.below (Below.refl _ w).drew
theorem SB4.new {F : Nat → Bool} {w : World} (h : Fit w) : SB4 w.heap.size F (w.alloc (.cells #[.int .u64 (wd F 0), .int .u64 (wd F 1), .int .u64 (wd F 2), .int .u64 (wd F 3)] 24)) :=
 ⟨Four.new w _ _ _ _ _, h.alloc _⟩
theorem showlist_c (F : Nat → Bool) (w : World) (hw : Fit w) :
  Calls Tryz.prog 51 #[sv F] w fun e w' => e = .returned (.string ⟨(listP F).toArray⟩) ∧ Below w.heap.size w w' := by
 obtain ⟨w0, hw0⟩ : ∃ w0, w0 = w.alloc (.cells #[.int .u64 (wd F 0), .int .u64 (wd F 1), .int .u64 (wd F 2), .int .u64 (wd F 3)] 24) := ⟨_, rfl⟩
 have hS0 : SB4 w.heap.size F w0 := by rw [hw0]; exact SB4.new hw
 have b0 : Below w.heap.size w w0 := by rw [hw0]; exact (Below.refl _ w).alloc (Nat.le_refl _) _
 have hof1 := fun w => of_c ⟨#[94, 45]⟩ (by decide) w
 have e1 : (⟨#[94, 45]⟩ : ByteArray).size = 2 := rfl
 rw [e1] at hof1
 obtain ⟨G, hG⟩ : ∃ G, G = inS ⟨#[94, 45]⟩ 2 := ⟨_, rfl⟩
 rw [← hG] at hof1
 have heq : ∀ w, (Op.equalIn 10000 24 (.agg #[.int .u64 (wd F 0), .int .u64 (wd F 1), .int .u64 (wd F 2), .int .u64 (wd F 3)]) (.agg #[.int .u64 (wd G 0), .int .u64 (wd G 1), .int .u64 (wd G 2), .int .u64 (wd G 3)])).run Tryz.prog w = .ok (hatDash F) w := fun w => by
  rw [eq_words (wd F 0) (wd F 1) (wd F 2) (wd F 3) (wd G 0) (wd G 1) (wd G 2) (wd G 3) (wd_lt F 0) (wd_lt F 1) (wd_lt F 2) (wd_lt F 3) (wd_lt G 0) (wd_lt G 1) (wd_lt G 2) (wd_lt G 3) w]
  rw [hG]; rfl
 have hof2 := fun w => of_c ⟨#[93, 91, 92, 94, 45, 10]⟩ (by decide) w
 have e2 : (⟨#[93, 91, 92, 94, 45, 10]⟩ : ByteArray).size = 6 := rfl
 rw [e2] at hof2
 obtain ⟨A, hA⟩ : ∃ A, A = inS ⟨#[93, 91, 92, 94, 45, 10]⟩ 6 := ⟨_, rfl⟩
 rw [← hA] at hof2
 have hls := fun w => less_c F A w
 have hLf : (fun i => F i && !A i) = leftF F := by rw [hA]; rfl
 rw [hLf] at hls
 obtain ⟨L, hL⟩ : ∃ L, L = leftF F := ⟨_, rfl⟩
 rw [← hL] at hls
 have hby := fun w hw => bytesl_c L w hw
 have hlen : (bytesL L).length ≤ 256 := by rw [bytesL_len]; exact cnt_le _ _
 have hrun := fun w => showruns_c (bytesL L) hlen w
 have hrl := runsP_len 257 (bytesL L)
 have hLP : listP F = if hatDash F then [45, 94] else onlyP F 93 [93] ++ runsP 257 (bytesL L) ++ onlyP F 10 [92, 110] ++ onlyP F 91 [91] ++ onlyP F 92 [92] ++ onlyP F 94 [94] ++ onlyP F 45 [45] := by rw [hL]; rfl
 obtain ⟨R, hR⟩ : ∃ R, R = listP F := ⟨_, rfl⟩
 rw [← hR] at hLP ⊢
 obtain ⟨B93, hB93⟩ : ∃ B : ByteArray, B = ⟨(onlyP F 93 [93]).toArray⟩ := ⟨_, rfl⟩
 have d93 : B93.data.toList = onlyP F 93 [93] := by rw [hB93]
 have l93 : B93.size ≤ 2 := by
  have := onlyP_len F 93 [93]
  rw [hB93]
  simp only [ByteArray.size, List.size_toArray]
  simp only [List.length_cons, List.length_nil] at this
  omega
 have o93 : ∀ w, Calls Tryz.prog 88 #[sv F, .int .u8 93, .string ⟨#[93]⟩] w fun e w' => e = .returned (.string B93) ∧ Below w.heap.size w w' := fun w => by rw [hB93]; exact only_c F 93 (by decide) [93] w
 obtain ⟨B10, hB10⟩ : ∃ B : ByteArray, B = ⟨(onlyP F 10 [92, 110]).toArray⟩ := ⟨_, rfl⟩
 have d10 : B10.data.toList = onlyP F 10 [92, 110] := by rw [hB10]
 have l10 : B10.size ≤ 2 := by
  have := onlyP_len F 10 [92, 110]
  rw [hB10]
  simp only [ByteArray.size, List.size_toArray]
  simp only [List.length_cons, List.length_nil] at this
  omega
 have o10 : ∀ w, Calls Tryz.prog 88 #[sv F, .int .u8 10, .string ⟨#[92, 110]⟩] w fun e w' => e = .returned (.string B10) ∧ Below w.heap.size w w' := fun w => by rw [hB10]; exact only_c F 10 (by decide) [92, 110] w
 obtain ⟨B91, hB91⟩ : ∃ B : ByteArray, B = ⟨(onlyP F 91 [91]).toArray⟩ := ⟨_, rfl⟩
 have d91 : B91.data.toList = onlyP F 91 [91] := by rw [hB91]
 have l91 : B91.size ≤ 2 := by
  have := onlyP_len F 91 [91]
  rw [hB91]
  simp only [ByteArray.size, List.size_toArray]
  simp only [List.length_cons, List.length_nil] at this
  omega
 have o91 : ∀ w, Calls Tryz.prog 88 #[sv F, .int .u8 91, .string ⟨#[91]⟩] w fun e w' => e = .returned (.string B91) ∧ Below w.heap.size w w' := fun w => by rw [hB91]; exact only_c F 91 (by decide) [91] w
 obtain ⟨B92, hB92⟩ : ∃ B : ByteArray, B = ⟨(onlyP F 92 [92]).toArray⟩ := ⟨_, rfl⟩
 have d92 : B92.data.toList = onlyP F 92 [92] := by rw [hB92]
 have l92 : B92.size ≤ 2 := by
  have := onlyP_len F 92 [92]
  rw [hB92]
  simp only [ByteArray.size, List.size_toArray]
  simp only [List.length_cons, List.length_nil] at this
  omega
 have o92 : ∀ w, Calls Tryz.prog 88 #[sv F, .int .u8 92, .string ⟨#[92]⟩] w fun e w' => e = .returned (.string B92) ∧ Below w.heap.size w w' := fun w => by rw [hB92]; exact only_c F 92 (by decide) [92] w
 obtain ⟨B94, hB94⟩ : ∃ B : ByteArray, B = ⟨(onlyP F 94 [94]).toArray⟩ := ⟨_, rfl⟩
 have d94 : B94.data.toList = onlyP F 94 [94] := by rw [hB94]
 have l94 : B94.size ≤ 2 := by
  have := onlyP_len F 94 [94]
  rw [hB94]
  simp only [ByteArray.size, List.size_toArray]
  simp only [List.length_cons, List.length_nil] at this
  omega
 have o94 : ∀ w, Calls Tryz.prog 88 #[sv F, .int .u8 94, .string ⟨#[94]⟩] w fun e w' => e = .returned (.string B94) ∧ Below w.heap.size w w' := fun w => by rw [hB94]; exact only_c F 94 (by decide) [94] w
 obtain ⟨B45, hB45⟩ : ∃ B : ByteArray, B = ⟨(onlyP F 45 [45]).toArray⟩ := ⟨_, rfl⟩
 have d45 : B45.data.toList = onlyP F 45 [45] := by rw [hB45]
 have l45 : B45.size ≤ 2 := by
  have := onlyP_len F 45 [45]
  rw [hB45]
  simp only [ByteArray.size, List.size_toArray]
  simp only [List.length_cons, List.length_nil] at this
  omega
 have o45 : ∀ w, Calls Tryz.prog 88 #[sv F, .int .u8 45, .string ⟨#[45]⟩] w fun e w' => e = .returned (.string B45) ∧ Below w.heap.size w w' := fun w => by rw [hB45]; exact only_c F 45 (by decide) [45] w
 obtain ⟨BR, hBR⟩ : ∃ B : ByteArray, B = ⟨(runsP 257 (bytesL L)).toArray⟩ := ⟨_, rfl⟩
 have dR : BR.data.toList = runsP 257 (bytesL L) := by rw [hBR]
 have lR : BR.size ≤ 256 := by
  rw [hBR]
  simp only [ByteArray.size, List.size_toArray]
  omega
 rw [← hBR] at hrun
 rw [← d93, ← d10, ← d91, ← d92, ← d94, ← d45, ← dR] at hLP
 generalize hpbl : bytesL L = bl at hby hrun hlen hrl
 have HP := Lib.hid hLP
 have O1 := Lib.hid hof1
 have O2 := Lib.hid hof2
 have HLS := Lib.hid hls
 have HBY := Lib.hid hby
 have HRN := Lib.hid hrun
 have P93 := Lib.hid o93
 have P10 := Lib.hid o10
 have P91 := Lib.hid o91
 have P92 := Lib.hid o92
 have P94 := Lib.hid o94
 have P45 := Lib.hid o45
 have HW := Lib.hid hw0
 have HS0 := Lib.hid hS0
 have B0 := Lib.hid b0
 clear hLP hof1 hof2 hls hby hrun o93 o10 o91 o92 o94 o45 hw0 hS0 b0 hG hA hL hLf hR hB93 hB10 hB91 hB92 hB94 hB45 d93 d10 d91 d92 d94 d45 dR hBR hpbl hrl e1 e2
 generalize hatDash F = hd at *
 unfold sv at O1 O2 HLS HBY P93 P10 P91 P92 P94 P45 ⊢
 go_enter Tryz.func51, Tryz.ntmps51
 go_wp2_with fail
 rw [← HW.out]
 clear HW
 have hS0 := HS0.out
 have b0 := B0.out
 refine wp_region_held_drew (S := fun w' => SB4 w.heap.size F w') (by kernel_rfl) hS0.drew (fun hHeld => ?_)
 refine wpAnyH_take (i := 0) (v := ?_) rfl (by kernel_rfl) (by kernel_rfl) (by kernel_rfl) (fun _ _ _ h => h) (Or.inl ⟨by kernel_rfl, ?_⟩) (by assumption) ?_
 rotate_left
 ·(intro w hSw; (try dsimp only at hSw); have z0 := hSw.a.c0; have z1 := hSw.a.c1; have z2 := hSw.a.c2; have z3 := hSw.a.c3; go_simp); (try with_reducible rfl)
 try simp only [Act.put, laS]
 have hS := hS0.drew
 have bb := b0.trans ((Below.refl _ w0).drew.mono b0.size)
 refine wpAnyH_ready (rs := [1]) (by kernel_rfl) (by simp) ?_
 refine AllReadyH.cons rfl (fun K hK => ?_) AllReadyH.nil
 go_simp
 refine (O1.out _).mono ?_
 rintro e w1 ⟨rfl, hB1⟩
 have b1 := bb.trans (hB1.mono bb.size)
 have hS1 := hS.below hB1
 refine hK.out _ _ ?_ (fun hHeld => ?_)
 ·exact hS1
 clear hK K hB1 hS bb hS0 b0
 try simp only [Act.put, laS]
 refine wpAnyH_take (i := 2) (v := ?_) rfl (by kernel_rfl) (by kernel_rfl) (by kernel_rfl) (fun _ _ _ h => h) (Or.inl ⟨by kernel_rfl, ?_⟩) (by assumption) ?_
 rotate_left
 ·(intro w hSw; (try dsimp only at hSw); go_simp); (try with_reducible rfl)
 try simp only [Act.put, laS]
 refine wpAnyH_done (by kernel_rfl) ?_ _
 cases hd with
 | true =>
  go_wp2
  go_ret
  refine ⟨?_, b1⟩
  have := HP.out
  rw [if_pos (by trivial)] at this
  rw [this]; rfl
 | false =>
  go_wp2_with fail
  have yA : (9223372036854775807 < B93.size + BR.size) = False := by simp; omega
  have yB : (9223372036854775807 < B93.size + BR.size + B10.size) = False := by simp; omega
  have yC : (9223372036854775807 < B93.size + BR.size + B10.size + B91.size) = False := by simp; omega
  have yD : (9223372036854775807 < B93.size + BR.size + B10.size + B91.size + B92.size) = False := by simp; omega
  have yE : (9223372036854775807 < B93.size + BR.size + B10.size + B91.size + B92.size + B94.size) = False := by simp; omega
  have yF : (9223372036854775807 < B93.size + BR.size + B10.size + B91.size + B92.size + B94.size + B45.size) = False := by simp; omega
  refine wp_region_held_drew (S := fun w' => SB4 w.heap.size F w') (by kernel_rfl) hS1.drew (fun hHeld => ?_)
  have hS2 := hS1.drew
  have bb2 := b1.trans ((Below.refl _ w1).drew.mono b1.size)
  refine wpAnyH_take (i := 0) (v := ?_) rfl (by kernel_rfl) (by kernel_rfl) (by kernel_rfl) (fun _ _ _ h => h) (Or.inl ⟨by kernel_rfl, ?_⟩) (by assumption) ?_
  rotate_left
  ·(intro w hSw; (try dsimp only at hSw); have z0 := hSw.a.c0; have z1 := hSw.a.c1; have z2 := hSw.a.c2; have z3 := hSw.a.c3; go_simp); (try with_reducible rfl)
  try simp only [Act.put, laS]
  refine wpAnyH_take (i := 2) (v := ?_) rfl (by kernel_rfl) (by kernel_rfl) (by kernel_rfl) (fun _ _ _ h => h) (Or.inl ⟨by kernel_rfl, ?_⟩) (by assumption) ?_
  rotate_left
  ·(intro w hSw; (try dsimp only at hSw); have z0 := hSw.a.c0; have z1 := hSw.a.c1; have z2 := hSw.a.c2; have z3 := hSw.a.c3; go_simp); (try with_reducible rfl)
  try simp only [Act.put, laS]
  refine wpAnyH_ready (rs := [1]) (by kernel_rfl) (by simp) ?_
  refine AllReadyH.cons rfl (fun K hK => ?_) AllReadyH.nil
  go_simp
  refine (P93.out _).mono ?_
  rintro e w3 ⟨rfl, hB3⟩
  have bb3 := bb2.trans (hB3.mono bb2.size)
  have hS3 := hS2.below hB3
  refine hK.out _ _ ?_ (fun hHeld => ?_)
  ·exact hS3
  clear hK K hB3
  try simp only [Act.put, laS]
  refine wpAnyH_ready (rs := [3]) (by kernel_rfl) (by simp) ?_
  refine AllReadyH.cons rfl (fun K hK => ?_) AllReadyH.nil
  go_simp
  refine (O2.out _).mono ?_
  rintro e w4 ⟨rfl, hB4⟩
  have bb4 := bb3.trans (hB4.mono bb3.size)
  have hS4 := hS3.below hB4
  refine hK.out _ _ ?_ (fun hHeld => ?_)
  ·exact hS4
  clear hK K hB4
  try simp only [Act.put, laS]
  refine wpAnyH_ready (rs := [4]) (by kernel_rfl) (by simp) ?_
  refine AllReadyH.cons rfl (fun K hK => ?_) AllReadyH.nil
  go_simp
  refine (HLS.out _).mono ?_
  rintro e w5 ⟨rfl, hB5⟩
  have bb5 := bb4.trans (hB5.mono bb4.size)
  have hS5 := hS4.below hB5
  refine hK.out _ _ ?_ (fun hHeld => ?_)
  ·exact hS5
  clear hK K hB5
  try simp only [Act.put, laS]
  refine wpAnyH_ready (rs := [5]) (by kernel_rfl) (by simp) ?_
  refine AllReadyH.cons rfl (fun K hK => ?_) AllReadyH.nil
  go_simp
  refine (HBY.out _ hS5.fit).mono ?_
  rintro e w6 ⟨rfl, hB6⟩
  have bb6 := bb5.trans (hB6.mono bb5.size)
  have hS6 := hS5.below hB6
  refine hK.out _ _ ?_ (fun hHeld => ?_)
  ·exact hS6
  clear hK K hB6
  try simp only [Act.put, laS]
  refine wpAnyH_ready (rs := [6]) (by kernel_rfl) (by simp) ?_
  refine AllReadyH.cons rfl (fun K hK => ?_) AllReadyH.nil
  go_simp
  refine (HRN.out _).mono ?_
  rintro e w7 ⟨rfl, hB7⟩
  have bb7 := bb6.trans (hB7.mono bb6.size)
  have hS7 := hS6.below hB7
  refine hK.out _ _ ?_ (fun hHeld => ?_)
  ·exact hS7
  clear hK K hB7
  try simp only [Act.put, laS]
  refine wpAnyH_take (i := 7) (v := ?_) rfl (by kernel_rfl) (by kernel_rfl) (by kernel_rfl) (fun _ _ _ h => h) (Or.inl ⟨by kernel_rfl, ?_⟩) (by assumption) ?_
  rotate_left
  ·(intro w hSw; (try dsimp only at hSw); go_simp); (try with_reducible rfl)
  try simp only [Act.put, laS]
  refine wpAnyH_take (i := 8) (v := ?_) rfl (by kernel_rfl) (by kernel_rfl) (by kernel_rfl) (fun _ _ _ h => h) (Or.inl ⟨by kernel_rfl, ?_⟩) (by assumption) ?_
  rotate_left
  ·(intro w hSw; (try dsimp only at hSw); go_simp); (try with_reducible rfl)
  try simp only [Act.put, laS]
  refine wpAnyH_done (by kernel_rfl) ?_ _
  go_wp2_with fail
  refine wp_region_held_drew (S := fun w' => SB4 w.heap.size F w') (by kernel_rfl) hS7.drew (fun hHeld => ?_)
  have hS8 := hS7.drew
  have bb8 := bb7.trans ((Below.refl _ w7).drew.mono bb7.size)
  clear hS1 hS2 hS3 hS4 hS5 hS6 hS7 b1 bb2 bb3 bb4 bb5 bb6 bb7
  refine wpAnyH_take (i := 0) (v := ?_) rfl (by kernel_rfl) (by kernel_rfl) (by kernel_rfl) (fun _ _ _ h => h) (Or.inl ⟨by kernel_rfl, ?_⟩) (by assumption) ?_
  rotate_left
  ·(intro w hSw; (try dsimp only at hSw); go_simp); (try with_reducible rfl)
  try simp only [Act.put, laS]
  refine wpAnyH_take (i := 1) (v := ?_) rfl (by kernel_rfl) (by kernel_rfl) (by kernel_rfl) (fun _ _ _ h => h) (Or.inl ⟨by kernel_rfl, ?_⟩) (by assumption) ?_
  rotate_left
  ·(intro w hSw; (try dsimp only at hSw); have z0 := hSw.a.c0; have z1 := hSw.a.c1; have z2 := hSw.a.c2; have z3 := hSw.a.c3; go_simp); (try with_reducible rfl)
  try simp only [Act.put, laS]
  refine wpAnyH_take (i := 4) (v := ?_) rfl (by kernel_rfl) (by kernel_rfl) (by kernel_rfl) (fun _ _ _ h => h) (Or.inl ⟨by kernel_rfl, ?_⟩) (by assumption) ?_
  rotate_left
  ·(intro w hSw; (try dsimp only at hSw); have z0 := hSw.a.c0; have z1 := hSw.a.c1; have z2 := hSw.a.c2; have z3 := hSw.a.c3; go_simp); (try with_reducible rfl)
  try simp only [Act.put, laS]
  refine wpAnyH_take (i := 7) (v := ?_) rfl (by kernel_rfl) (by kernel_rfl) (by kernel_rfl) (fun _ _ _ h => h) (Or.inl ⟨by kernel_rfl, ?_⟩) (by assumption) ?_
  rotate_left
  ·(intro w hSw; (try dsimp only at hSw); have z0 := hSw.a.c0; have z1 := hSw.a.c1; have z2 := hSw.a.c2; have z3 := hSw.a.c3; go_simp); (try with_reducible rfl)
  try simp only [Act.put, laS]
  refine wpAnyH_take (i := 10) (v := ?_) rfl (by kernel_rfl) (by kernel_rfl) (by kernel_rfl) (fun _ _ _ h => h) (Or.inl ⟨by kernel_rfl, ?_⟩) (by assumption) ?_
  rotate_left
  ·(intro w hSw; (try dsimp only at hSw); have z0 := hSw.a.c0; have z1 := hSw.a.c1; have z2 := hSw.a.c2; have z3 := hSw.a.c3; go_simp); (try with_reducible rfl)
  try simp only [Act.put, laS]
  refine wpAnyH_take (i := 13) (v := ?_) rfl (by kernel_rfl) (by kernel_rfl) (by kernel_rfl) (fun _ _ _ h => h) (Or.inl ⟨by kernel_rfl, ?_⟩) (by assumption) ?_
  rotate_left
  ·(intro w hSw; (try dsimp only at hSw); have z0 := hSw.a.c0; have z1 := hSw.a.c1; have z2 := hSw.a.c2; have z3 := hSw.a.c3; go_simp); (try with_reducible rfl)
  try simp only [Act.put, laS]
  refine wpAnyH_ready (rs := [2]) (by kernel_rfl) (by simp) ?_
  refine AllReadyH.cons rfl (fun K hK => ?_) AllReadyH.nil
  go_simp
  refine (P10.out _).mono ?_
  rintro e w9 ⟨rfl, hB9⟩
  have bb9 := bb8.trans (hB9.mono bb8.size)
  have hS9 := hS8.below hB9
  refine hK.out _ _ ?_ (fun hHeld => ?_)
  ·exact hS9
  clear hK K hB9
  try simp only [Act.put, laS]
  refine wpAnyH_take (i := 3) (v := ?_) rfl (by kernel_rfl) (by kernel_rfl) (by kernel_rfl) (fun _ _ _ h => h) (Or.inl ⟨by kernel_rfl, ?_⟩) (by assumption) ?_
  rotate_left
  ·(intro w hSw; (try dsimp only at hSw); go_simp); (try with_reducible rfl)
  try simp only [Act.put, laS]
  refine wpAnyH_ready (rs := [5]) (by kernel_rfl) (by simp) ?_
  refine AllReadyH.cons rfl (fun K hK => ?_) AllReadyH.nil
  go_simp
  refine (P91.out _).mono ?_
  rintro e w10 ⟨rfl, hB10⟩
  have bb10 := bb9.trans (hB10.mono bb9.size)
  have hS10 := hS9.below hB10
  refine hK.out _ _ ?_ (fun hHeld => ?_)
  ·exact hS10
  clear hK K hB10
  try simp only [Act.put, laS]
  refine wpAnyH_take (i := 6) (v := ?_) rfl (by kernel_rfl) (by kernel_rfl) (by kernel_rfl) (fun _ _ _ h => h) (Or.inl ⟨by kernel_rfl, ?_⟩) (by assumption) ?_
  rotate_left
  ·(intro w hSw; (try dsimp only at hSw); go_simp); (try with_reducible rfl)
  try simp only [Act.put, laS]
  refine wpAnyH_ready (rs := [8]) (by kernel_rfl) (by simp) ?_
  refine AllReadyH.cons rfl (fun K hK => ?_) AllReadyH.nil
  go_simp
  refine (P92.out _).mono ?_
  rintro e w11 ⟨rfl, hB11⟩
  have bb11 := bb10.trans (hB11.mono bb10.size)
  have hS11 := hS10.below hB11
  refine hK.out _ _ ?_ (fun hHeld => ?_)
  ·exact hS11
  clear hK K hB11
  try simp only [Act.put, laS]
  refine wpAnyH_take (i := 9) (v := ?_) rfl (by kernel_rfl) (by kernel_rfl) (by kernel_rfl) (fun _ _ _ h => h) (Or.inl ⟨by kernel_rfl, ?_⟩) (by assumption) ?_
  rotate_left
  ·(intro w hSw; (try dsimp only at hSw); go_simp); (try with_reducible rfl)
  try simp only [Act.put, laS]
  refine wpAnyH_ready (rs := [11]) (by kernel_rfl) (by simp) ?_
  refine AllReadyH.cons rfl (fun K hK => ?_) AllReadyH.nil
  go_simp
  refine (P94.out _).mono ?_
  rintro e w12 ⟨rfl, hB12⟩
  have bb12 := bb11.trans (hB12.mono bb11.size)
  have hS12 := hS11.below hB12
  refine hK.out _ _ ?_ (fun hHeld => ?_)
  ·exact hS12
  clear hK K hB12
  try simp only [Act.put, laS]
  refine wpAnyH_take (i := 12) (v := ?_) rfl (by kernel_rfl) (by kernel_rfl) (by kernel_rfl) (fun _ _ _ h => h) (Or.inl ⟨by kernel_rfl, ?_⟩) (by assumption) ?_
  rotate_left
  ·(intro w hSw; (try dsimp only at hSw); go_simp); (try with_reducible rfl)
  try simp only [Act.put, laS]
  refine wpAnyH_ready (rs := [14]) (by kernel_rfl) (by simp) ?_
  refine AllReadyH.cons rfl (fun K hK => ?_) AllReadyH.nil
  go_simp
  refine (P45.out _).mono ?_
  rintro e w13 ⟨rfl, hB13⟩
  have bb13 := bb12.trans (hB13.mono bb12.size)
  have hS13 := hS12.below hB13
  refine hK.out _ _ ?_ (fun hHeld => ?_)
  ·exact hS13
  clear hK K hB13
  try simp only [Act.put, laS]
  refine wpAnyH_take (i := 15) (v := ?_) rfl (by kernel_rfl) (by kernel_rfl) (by kernel_rfl) (fun _ _ _ h => h) (Or.inl ⟨by kernel_rfl, ?_⟩) (by assumption) ?_
  rotate_left
  ·(intro w hSw; (try dsimp only at hSw); go_simp); (try with_reducible rfl)
  try simp only [Act.put, laS]
  refine wpAnyH_take (i := 16) (v := ?_) rfl (by kernel_rfl) (by kernel_rfl) (by kernel_rfl) (fun _ _ _ h => h) (Or.inl ⟨by kernel_rfl, ?_⟩) (by assumption) ?_
  rotate_left
  ·(intro w hSw; (try dsimp only at hSw); go_simp); (try with_reducible rfl)
  try simp only [Act.put, laS]
  refine wpAnyH_done (by kernel_rfl) ?_ _
  go_wp2
  go_ret
  refine ⟨?_, bb13⟩
  have hp := HP.out
  rw [if_neg (by decide)] at hp
  refine congrArg (fun t : ByteArray => Ending.returned (Value.string t)) (?_ : B93 ++ BR ++ B10 ++ B91 ++ B92 ++ B94 ++ B45 = ⟨R.toArray⟩)
  apply Go.WideShapes.bytes_inj
  rw [hp]
  simp
end Go.Proofs.YtdjcgjkbecncaaaGreatDoor
namespace Go.Proofs.YtdjcgjkbecncaaaGreatDoor
open Go.RowKit
theorem show_c (F : Nat → Bool) (w : World) (hw : Fit w) :
  Calls Tryz.prog 26 #[sv F] w fun e w' => e = .returned (.string ⟨(showP F).toArray⟩) ∧ Below w.heap.size w w' := by
 obtain ⟨w0, hw0⟩ : ∃ w0, w0 = w.alloc (.cells #[.int .u64 (wd F 0), .int .u64 (wd F 1), .int .u64 (wd F 2), .int .u64 (wd F 3)] 24) := ⟨_, rfl⟩
 have hS0 : SB4 w.heap.size F w0 := by rw [hw0]; exact SB4.new hw
 have b0 : Below w.heap.size w w0 := by rw [hw0]; exact (Below.refl _ w).alloc (Nat.le_refl _) _
 have hsz := fun w => size_c F w
 have hby := fun w hw => bytesl_c F w hw
 have hls := fun w hw => showlist_c F w hw
 have hlp := listP_len F
 obtain ⟨L, hL⟩ : ∃ B : ByteArray, B = ⟨(listP F).toArray⟩ := ⟨_, rfl⟩
 have hLd : L.data.toList = listP F := by rw [hL]
 have hLs : L.size ≤ 300 := by
  rw [hL]
  simp only [ByteArray.size, List.size_toArray]
  omega
 rw [← hL] at hls
 have hSH : showP F = if cnt F 256 = 0 then [] else
   if cnt F 256 = 1 then (match bytesL F with | [c] => showOneP c | _ => []) else
   if cnt F 256 = 256 then [46] else [91] ++ L.data.toList ++ [93] := by rw [hLd]; rfl
 obtain ⟨R, hR⟩ : ∃ R, R = showP F := ⟨_, rfl⟩
 rw [← hR] at hSH ⊢
 have hbl := bytesL_len F
 have hcn := cnt_le F 256
 generalize cnt F 256 = n at *
 have HSZ := Lib.hid hsz
 have HLS := Lib.hid hls
 have HW := Lib.hid hw0
 have HS0 := Lib.hid hS0
 have B0 := Lib.hid b0
 clear hsz hls hw0 hS0 b0 hLd hR hL hlp
 rcases (by omega : n = 0 ∨ n = 1 ∨ n = 256 ∨ (n ≠ 0 ∧ n ≠ 1 ∧ n ≠ 256)) with rfl | rfl | rfl | ⟨h0, h1, h2⟩
 ·rw [if_pos rfl] at hSH
  have HP := Lib.hid hSH
  clear hSH hbl hby HLS
  unfold sv at HSZ ⊢
  go_enter Tryz.func26, Tryz.ntmps26
  go_wp2_with fail
  rw [← HW.out]
  clear HW
  have hs := HS0.out
  have z0 := hs.a.c0
  have z1 := hs.a.c1
  have z2 := hs.a.c2
  have z3 := hs.a.c3
  go_wp2_with fail
  refine (HSZ.out _).mono ?_
  rintro e w1 ⟨rfl, hB1⟩
  have HB := Lib.hid (B0.out.trans (hB1.mono B0.out.size))
  go_wp2
  go_ret
  exact ⟨by rw [HP.out]; rfl, HB.out⟩
 ·rw [if_neg (by omega), if_pos rfl] at hSH
  obtain ⟨c, hc⟩ := List.length_eq_one_iff.1 hbl
  rw [hc] at hSH hby
  have hso := fun w => showone_c c w
  have HP := Lib.hid hSH
  have HBY := Lib.hid hby
  have HSO := Lib.hid hso
  clear hSH hbl hby HLS hc hso
  unfold sv at HSZ HBY ⊢
  go_enter Tryz.func26, Tryz.ntmps26
  go_wp2_with fail
  rw [← HW.out]
  clear HW
  have hs := HS0.out
  have z0 := hs.a.c0
  have z1 := hs.a.c1
  have z2 := hs.a.c2
  have z3 := hs.a.c3
  go_wp2_with fail
  refine (HSZ.out _).mono ?_
  rintro e w1 ⟨rfl, hB1⟩
  have hs1 := hs.below hB1
  have hb1 := B0.out.trans (hB1.mono B0.out.size)
  clear hs z0 z1 z2 z3 hB1
  have z0 := hs1.a.c0
  have z1 := hs1.a.c1
  have z2 := hs1.a.c2
  have z3 := hs1.a.c3
  go_wp2_with fail
  refine (HBY.out _ hs1.fit).mono ?_
  rintro e w2 ⟨rfl, hB2⟩
  have hb2 := hb1.trans (hB2.mono hb1.size)
  go_wp2_with fail
  refine (HSO.out _).mono ?_
  rintro e w3 ⟨rfl, hB3⟩
  have HB := Lib.hid (hb2.trans (hB3.mono hb2.size))
  go_wp2
  go_ret
  exact ⟨by rw [HP.out]; rfl, HB.out⟩
 ·rw [if_neg (by omega), if_neg (by omega), if_pos rfl] at hSH
  have HP := Lib.hid hSH
  clear hSH hbl hby HLS
  unfold sv at HSZ ⊢
  go_enter Tryz.func26, Tryz.ntmps26
  go_wp2_with fail
  rw [← HW.out]
  clear HW
  have hs := HS0.out
  have z0 := hs.a.c0
  have z1 := hs.a.c1
  have z2 := hs.a.c2
  have z3 := hs.a.c3
  go_wp2_with fail
  refine (HSZ.out _).mono ?_
  rintro e w1 ⟨rfl, hB1⟩
  have HB := Lib.hid (B0.out.trans (hB1.mono B0.out.size))
  go_wp2
  go_ret
  exact ⟨by rw [HP.out]; rfl, HB.out⟩
 ·rw [if_neg h0, if_neg h1, if_neg h2] at hSH
  have HP := Lib.hid hSH
  have q0 : ((n : Int) == 0) = false := by rw [beq_eq_false_iff_ne]; omega
  have q1 : ((n : Int) == 1) = false := by rw [beq_eq_false_iff_ne]; omega
  have q2 : ((n : Int) == 256) = false := by rw [beq_eq_false_iff_ne]; omega
  have y1 : (9223372036854775807 < 1 + L.size) = False := by simp; omega
  have y2 : (9223372036854775807 < 1 + L.size + 1) = False := by simp; omega
  clear hSH hbl hby h0 h1 h2
  unfold sv at HSZ HLS ⊢
  go_enter Tryz.func26, Tryz.ntmps26
  go_wp2_with fail
  rw [← HW.out]
  clear HW
  have hs := HS0.out
  have z0 := hs.a.c0
  have z1 := hs.a.c1
  have z2 := hs.a.c2
  have z3 := hs.a.c3
  go_wp2_with fail
  refine (HSZ.out _).mono ?_
  rintro e w1 ⟨rfl, hB1⟩
  have hs1 := hs.below hB1
  have hb1 := B0.out.trans (hB1.mono B0.out.size)
  clear hs z0 z1 z2 z3 hB1
  have z0 := hs1.a.c0
  have z1 := hs1.a.c1
  have z2 := hs1.a.c2
  have z3 := hs1.a.c3
  go_wp2_with fail
  refine (HLS.out _ hs1.fit).mono ?_
  rintro e w2 ⟨rfl, hB2⟩
  have HB := Lib.hid (hb1.trans (hB2.mono hb1.size))
  go_wp2
  go_ret
  refine ⟨?_, HB.out⟩
  refine congrArg (fun t : ByteArray => Ending.returned (Value.string t)) (?_ : (⟨#[91]⟩ : ByteArray) ++ L ++ ⟨#[93]⟩ = ⟨R.toArray⟩)
  apply Go.WideShapes.bytes_inj
  rw [HP.out]
  simp
end Go.Proofs.YtdjcgjkbecncaaaGreatDoor
