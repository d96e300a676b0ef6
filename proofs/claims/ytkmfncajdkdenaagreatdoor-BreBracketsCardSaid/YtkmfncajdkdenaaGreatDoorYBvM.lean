/- The reference's closes, bytes. -/
import Derived.Test.YtkmfncajdkdenaaGreatDoorYBvB
import Derived.Test.YtkmfncajdkdenaaGreatDoorYBuG
import Derived.Test.YtkmfncajdkdenaaGreatDoorYBrC
import Derived.Test.YtkmfncajdkdenaaGreatDoorYRxTr
import Derived.Test.YtkmfncajdkdenaaGreatDoorYBuE
import Derived.Test.YtkmfncajdkdenaaGreatDoorYBuA
import Derived.Test.YtkmfncajdkdenaaGreatDoorYBrJ
import Derived.Test.YtkmfncajdkdenaaGreatDoorYSetQ
set_option linter.unusedVariables false
set_option linter.unusedSimpArgs false
set_option maxRecDepth 100000
set_option maxHeartbeats 40000000
namespace Go.Proofs.YtkmfncajdkdenaaGreatDoor
open Go.RowKit Go.Lib
theorem closesU_c (s : List UInt8) (hs : s.length ≤ 100000) (i : Nat) (hi : i ≤ s.length) (w : World) :
  Calls Tryz.prog 53 #[.string ⟨s.toArray⟩, .int .i64 (i : Int)] w fun e w' => e = .returned (.bool (endsP s i)) ∧ w' = w := by
 have hsz : (⟨s.toArray⟩ : ByteArray).size = s.length := by simp [ByteArray.size]
 have ew1 : IntKind.i64.wrap ((i : Int) + 1) = (i : Int) + 1 := by simp [IntKind.wrap, IntKind.signed, IntKind.bits]; omega
 have ew2 : IntKind.i64.wrap ((i : Int) + 2) = (i : Int) + 2 := by simp [IntKind.wrap, IntKind.signed, IntKind.bits]; omega
 obtain ⟨r, hr⟩ : ∃ r, r = endsP s i := ⟨_, rfl⟩
 rw [← hr]
 have HR := Lib.hid hr
 clear hr
 by_cases he : i = s.length
 ·have g0 : ((i : Int) == s.length) = true := by rw [he]; simp
  obtain rfl : r = true := HR.out.trans (by unfold endsP; rw [decide_eq_true he]; rfl)
  clear HR he
  go_enter Tryz.func53, Tryz.ntmps53
  go_wp2_with fail
  go_ret
  exact ⟨rfl, rfl⟩
 ·have g0 : ((i : Int) == s.length) = false := by rw [beq_eq_false_iff_ne]; omega
  have hq0 : r = ah s i [92, 41] := HR.out.trans (by unfold endsP; rw [decide_eq_false he]; rfl)
  clear HR
  by_cases h1l : i + 1 < s.length
  ·have g1 : ((i : Int) + 1 < s.length) = True := by simp; omega
   have xs := fun W => sl2_c s i (by omega) W
   have hq := two_eq s i 92 41
   rw [← hq0] at hq
   clear hq0 he
   generalize (⟨((s.drop i).take 2).toArray⟩ : ByteArray) = X at *
   cases r with
   | true =>
    go_enter Tryz.func53, Tryz.ntmps53
    go_wp2_with fail
    go_ret
    exact ⟨rfl, rfl⟩
   | false =>
    go_enter Tryz.func53, Tryz.ntmps53
    go_wp2_with fail
    go_ret
    exact ⟨rfl, rfl⟩
  ·have g1 : ((i : Int) + 1 < s.length) = False := by simp; omega
   obtain rfl : r = false := hq0.trans (by rw [ah_two, List.getElem?_eq_none (show s.length ≤ i + 1 by omega)]; simp)
   clear hq0 he
   go_enter Tryz.func53, Tryz.ntmps53
   go_wp2_with fail
   go_ret
   exact ⟨rfl, rfl⟩
theorem run_load_rowv {W : World} {b : Nat} {f : Nat → Bool} {o : Oper} {ev : Operand → Value} {x : Operand} (h : Row W b f) (ho : o.op = .load 30 x) (hx : ev x = .pointer (some ⟨b, 0, none⟩)) : (execOp ev o).run Tryz.prog W = .ok (.value (.agg (barr f))) W := by
 unfold execOp
 simp only [ho, hx, h.loadAt, Sem.run_bind, Sem.run_pure, Result.andThen_ok]
theorem run_load_stv {W : World} {b : Nat} {v : Value} {g : Int} {en : Nat → Bool} {a e : Int} {o : Oper} {ev : Operand → Value} {x : Operand} (h : ST W b v g en a e) (ho : o.op = .load 68 x) (hx : ev x = .pointer (some ⟨b, 0, none⟩)) : (execOp ev o).run Tryz.prog W = .ok (.value (.agg (sc v g en a e))) W := by
 unfold execOp
 simp only [ho, hx, h.loadAt, Sem.run_bind, Sem.run_pure, Result.andThen_ok]
def LOut (w : World) (n : Nat) (g : Int) (en : Nat → Bool) (a e : Int) (ys : List Nd) (r : Ending) (w' : World) : Prop :=
 ∃ p' c', r = .returned (.agg (sc (.slice p' (n + 1) c') g en a e)) ∧ RRow w' w.heap.size (.slice p' (n + 1) c') (n + 1) ys ∧ Below w.heap.size w w'
theorem bytesU_c (p : Option Addr) (n c : Nat) (g : Int) (en : Nat → Bool) (a e : Int) (F : Nat → Bool) (xs : List Nd) (hn : n ≤ 999999) (w : World) (hrow : RRow w 0 (.slice p n c) n xs) :
  Calls Tryz.prog 76 #[.agg (sc (.slice p n c) g en a e), bv F] w (LOut w n g en a e (xs ++ [byNd F])) := by
 obtain ⟨hz, hsz2⟩ := zero_of_info (P := Tryz.prog) infoSt
 obtain ⟨b, hb⟩ : ∃ b, b = w.heap.size := ⟨_, rfl⟩
 obtain ⟨W0, hW⟩ : ∃ W0, W0 = ((w.alloc (.cells (sc (.slice p n c) g en a e) 68)).alloc (.cells (barr F) 30)).alloc (.cells (sc (.slice none 0 0) 0 (fun _ => false) 0 0) 68) := ⟨_, rfl⟩
 have s0 : W0.heap.size = b + 3 := by rw [hW, hb]; simp
 have hS : ST W0 b (.slice p n c) g en a e := by rw [hW, hb]; exact ((ST.new w _ _ _ _ _).alloc _).alloc _
 have hN : Row W0 (b + 1) F := by
  rw [hW, hb]
  have := (Row.new (w.alloc (.cells (sc (.slice p n c) g en a e) 68)) F).alloc (.cells (sc (.slice none 0 0) 0 (fun _ => false) 0 0) 68)
  rwa [World.size_alloc] at this
 have hZ : ST W0 (b + 1 + 1) (.slice none 0 0) 0 (fun _ => false) 0 0 := by
  rw [hW, hb]
  have := ST.new ((w.alloc (.cells (sc (.slice p n c) g en a e) 68)).alloc (.cells (barr F) 30)) (.slice none 0 0) 0 (fun _ => false) 0 0
  rwa [World.size_alloc, World.size_alloc] at this
 have hB0 : Below b w W0 := by rw [hW, hb]; exact (((Below.refl _ w).alloc (Nat.le_refl _) _).alloc (by simp) _).alloc (by simp; omega) _
 have hX0 : RRow W0 0 (.slice p n c) n xs := by rw [hW]; exact row_alloc (row_alloc (row_alloc hrow _) _) _
 have hwd := fun w => words_c F w
 have hlf := fun w (h : RRow w 0 (.slice p n c) n xs) => leafU_c p n c g en a e (byNd F) xs hn w h
 unfold bv sv at hwd
 unfold byNd Nd.cells at hlf
 dsimp only at hlf
 unfold bv LOut
 rw [← hb]
 have HS := Lib.hid hS
 have HN := Lib.hid hN
 have HZ := Lib.hid hZ
 have HB0 := Lib.hid hB0
 have HX0 := Lib.hid hX0
 have HW := Lib.hid hW
 have HB := Lib.hid hb
 have HWD := Lib.hid hwd
 have HLF := Lib.hid hlf
 clear hS hN hZ hB0 hX0 hrow hW hb hwd hlf hsz2
 generalize hC0 : sc (.slice none 0 0) 0 (fun _ => false) 0 0 = C0 at hz HW
 generalize hC1 : sc (.slice p n c) g en a e = C1 at HW ⊢
 go_enter Tryz.func76, Tryz.ntmps76
 go_upto_region 1 with fail
 rw [← HW.out, ← HB.out]
 subst hC1
 clear HW hz hC0
 refine wp_region_noPanic ?_
 refine wp_region_held_drew (S := fun W => ST W b (.slice p n c) g en a e ∧ Row W (b + 1) F) (by kernel_rfl) ⟨HS.out.drew, ⟨HN.out.heap⟩⟩ (fun _ => ?_)
 have HM := Lib.hid ((Below.refl (b + 3) W0).drew)
 generalize W0.drew = W at *
 have HSW : Hid (ST W b (.slice p n c) g en a e ∧ Row W (b + 1) F) := Lib.hid (by assumption)
 refine wpAnyH_take (i := 0) (v := .agg (sc (.slice p n c) g en a e)) rfl (by kernel_rfl) (by kernel_rfl) (by kernel_rfl) (fun _ _ _ h => h) (Or.inl ⟨by kernel_rfl, fun w hSw => run_load_stv hSw.1 rfl rfl⟩) HSW.out ?_
 try simp only [Act.put, laS]
 refine wpAnyH_take (i := 1) (v := .agg (barr F)) rfl (by kernel_rfl) (by kernel_rfl) (by kernel_rfl) (fun _ _ _ h => h) (Or.inl ⟨by kernel_rfl, fun w hSw => run_load_rowv hSw.2 rfl rfl⟩) HSW.out ?_
 try simp only [Act.put, laS]
 refine wpAnyH_ready (rs := [2]) (by kernel_rfl) (by simp) ?_
 refine AllReadyH.cons rfl (fun K hK => ?_) AllReadyH.nil
 go_simp
 refine (HWD.out _).mono ?_
 rintro e1 W1 ⟨rfl, hB1⟩
 have hsW := HM.out.size
 have HM1 := Lib.hid (HM.out.trans (hB1.mono (by omega)))
 clear hB1 hsW HWD HM HSW
 have HSW : Hid (ST W1 b (.slice p n c) g en a e ∧ Row W1 (b + 1) F) := Lib.hid ⟨HS.out.below HM1.out (by omega), HN.out.below HM1.out (by omega)⟩
 refine hK.out _ _ HSW.out (fun _ => ?_)
 clear hK K
 try simp only [Act.put, laS]
 refine wpAnyH_take (i := 3) (v := ?_) rfl (by kernel_rfl) (by kernel_rfl) (by kernel_rfl) (fun _ _ _ h => h) (Or.inl ⟨by kernel_rfl, ?_⟩) HSW.out ?_
 rotate_left
 ·(intro w hSw; (try dsimp only at hSw); go_simp); (try with_reducible rfl)
 try simp only [Act.put, laS]
 refine wpAnyH_ready (rs := [4]) (by kernel_rfl) (by simp) ?_
 refine AllReadyH.cons rfl (fun K hK => ?_) AllReadyH.nil
 go_simp
 refine (HLF.out _ (row_below HX0.out (s0 ▸ HM1.out))).mono ?_
 rintro e2 W2 ⟨p9, c9, rfl, hr9, hB2⟩
 have hsW := HM1.out.size
 have HM2 := Lib.hid (HM1.out.trans (hB2.mono (by omega)))
 have H9 := Lib.hid (row_weak hr9 (show b + 3 ≤ _ by omega))
 clear hB2 hsW HLF HM1 HSW hr9
 have HSW : Hid (ST W2 b (.slice p n c) g en a e ∧ Row W2 (b + 1) F) := Lib.hid ⟨HS.out.below HM2.out (by omega), HN.out.below HM2.out (by omega)⟩
 refine hK.out _ _ HSW.out (fun _ => ?_)
 clear hK K
 try simp only [Act.put, laS]
 refine wpAnyH_ready (rs := [5]) (by kernel_rfl) (by simp) ?_
 refine AllReadyH.cons rfl (fun K hK => ?_) AllReadyH.nil
 have HZ2 := Lib.hid (HZ.out.below HM2.out (by omega))
 refine wp_store_st HZ2.out (v' := .slice p9 (n + 1) c9) rfl rfl rfl rfl ?_
 refine hK.out _ _ ⟨HSW.out.1.setRow_other (by omega) _, HSW.out.2.setRow_other (by omega) _⟩ (fun _ => ?_)
 clear hK K
 have q := (HZ2.out.put (.slice p9 (n + 1) c9) g en a e).load
 have HQ := Lib.hid q
 have HR := Lib.hid (row_row H9.out (show b + 1 + 1 < b + 3 by omega) (sc (.slice p9 (n + 1) c9) g en a e))
 have HB2 := Lib.hid (Below.setRow (HB0.out.trans (HM2.out.mono (by omega : b ≤ b + 3))) (show b ≤ b + 1 + 1 by omega) (sc (.slice p9 (n + 1) c9) g en a e))
 clear q HZ2 HM2 H9 HSW
 try simp only [Act.put, laS]
 refine wpAnyH_done (by kernel_rfl) ?_ _
 refine NoPanic.normal ?_
 go_wp2
 have q := HQ.out
 exact bodyPost_ret (v := .agg (sc (.slice p9 (n + 1) c9) g en a e)) (by simp [results, Tryz.results76, asAddr, Result.andThen, q]) rfl ⟨p9, c9, rfl, row_weak HR.out (by omega), HB2.out⟩
end Go.Proofs.YtkmfncajdkdenaaGreatDoor
namespace Go.Proofs.YtkmfncajdkdenaaGreatDoor
open Go.RowKit Go.Lib
theorem bracket_both (l : List UInt8) (hs : l.length ≤ 300) : ∃ (G : Nat → Bool) (m z : Int),
  (∀ w, MaxL w → Calls Tryz.prog 7 #[.string ⟨l.toArray⟩] w fun e w' => e = .returned (.tuple #[sv G, .int .i64 m, .int .i64 z]) ∧ Below w.heap.size w w') ∧
  (∀ w, Calls Tryz.prog 8 #[.string ⟨l.toArray⟩] w fun e w' => e = .returned (.tuple #[.agg (barr G), .int .i64 m, .int .i64 z]) ∧ Below w.heap.size w w') := by
 have h1 := fun w hm => bracket_c l (by omega) w hm
 have h2 := fun w => rbracket_go l (by omega) w
 rw [brk_same] at h2
 cases hb : brkP l with
 | none =>
  rw [hb] at h1 h2
  exact ⟨fun _ => false, 0, 42, h1, h2⟩
 | some x =>
  obtain ⟨F, m⟩ := x
  rw [hb] at h1 h2
  exact ⟨F, m, 0, h1, h2⟩
theorem brackets_wide (s : ByteArray) (hs : 300 < s.size) (w : World) (hw : Fit5 w) :
  Calls Tryz.prog 3 #[.string s] w fun e w' => e = .returned (.bool true) ∧ Below w.heap.size w w' := by
 have HS := Lib.hid (shown4_c w hw)
 have h1 : ((300 : Int) < s.size) = True := by simp; omega
 go_enter Tryz.func3, Tryz.ntmps3
 go_wp2_with fail
 refine HS.out.mono ?_
 rintro e w1 ⟨rfl, hB1⟩
 go_wp2
 go_ret
 exact ⟨rfl, hB1⟩
theorem brackets_in (l : List UInt8) (hs : l.length ≤ 300) (w : World) (hw : Fit5 w) :
  Calls Tryz.prog 3 #[.string ⟨l.toArray⟩] w fun e w' => e = .returned (.bool true) ∧ Below w.heap.size w w' := by
 have hsz : (⟨l.toArray⟩ : ByteArray).size = l.length := by simp [ByteArray.size]
 have h1 : ((300 : Int) < l.length) = False := by simp; omega
 obtain ⟨G, m, z, hA, hB⟩ := bracket_both l hs
 obtain ⟨hz, hsz2⟩ := zero_of_info (P := Tryz.prog) info27
 have hwd := fun w => words_c G w
 have heq := fun w => eq_four (t := 24) Tryz.underlying24 (wd G 0) (wd G 1) (wd G 2) (wd G 3) w
 unfold bv at hwd
 unfold sv at hA hwd
 have HA := Lib.hid hA
 have HBR := Lib.hid hB
 have HWD := Lib.hid hwd
 have HSN := Lib.hid (shown4_c w hw)
 have HW := Lib.hid hw
 clear hA hB hwd hw hsz2
 go_enter Tryz.func3, Tryz.ntmps3
 go_wp2_with fail
 refine HSN.out.mono ?_
 rintro e w1 ⟨rfl, hB1⟩
 have F1 := Lib.hid (HW.out.below hB1)
 have B1 := Lib.hid hB1
 clear hB1 HSN HW
 go_wp2_with fail
 refine (HA.out _ F1.out.m).mono ?_
 rintro e w2 ⟨rfl, hB2⟩
 have B2 := Lib.hid (B1.out.trans (hB2.mono B1.out.size))
 have hF := Four.new w2 25 (.int .u64 (wd G 0)) (.int .u64 (wd G 1)) (.int .u64 (wd G 2)) (.int .u64 (wd G 3))
 have hb3 := (Below.refl w2.heap.size w2).alloc (Nat.le_refl _) (.cells #[.int .u64 (wd G 0), .int .u64 (wd G 1), .int .u64 (wd G 2), .int .u64 (wd G 3)] 25)
 clear hB2 HA F1 B1
 obtain ⟨A, hA⟩ : ∃ A, A = w2.heap.size := ⟨_, rfl⟩
 have hAl := hF.lt
 rw [← hA] at hF hb3 hAl
 have HF := Lib.hid hF
 have HA := Lib.hid hA
 have B3 := Lib.hid (B2.out.trans (hb3.mono (by rw [hA]; exact B2.out.size)))
 clear hF hb3 hA
 go_upto_region 4 with fail
 rw [← HA.out]
 generalize w2.alloc (.cells #[.int .u64 (wd G 0), .int .u64 (wd G 1), .int .u64 (wd G 2), .int .u64 (wd G 3)] 25) = w3 at *
 clear B2 HA
 go_wp2_with fail
 refine (HBR.out _).mono ?_
 rintro e w4 ⟨rfl, hB4⟩
 have B4 := Lib.hid (B3.out.trans (hB4.mono B3.out.size))
 have F4 := Lib.hid (HF.out.below hB4 hAl)
 have hA4 : A < w4.heap.size := Nat.lt_of_lt_of_le hAl hB4.size
 clear hB4 HBR B3 HF hAl
 have Z := Row.new w4 (fun _ => false)
 have Zs := Z.storeCells G
 have ZR := Lib.hid (Z.put G)
 have hBa : Below w4.heap.size w4 (w4.alloc (.cells (barr fun _ => false) 30)) := (Below.refl _ w4).alloc (Nat.le_refl _) _
 have hBs := Below.setRow hBa (Nat.le_refl _) (barr G)
 have B5 := Lib.hid (B4.out.trans (hBs.mono B4.out.size))
 have F5 := Lib.hid (F4.out.below hBs hA4)
 have hA5 : A < ((w4.alloc (.cells (barr fun _ => false) 30)).setRow w4.heap.size (barr G)).heap.size := Nat.lt_of_lt_of_le hA4 hBs.size
 have hC5 : w4.heap.size < ((w4.alloc (.cells (barr fun _ => false) 30)).setRow w4.heap.size (barr G)).heap.size := by simp [World.setRow]
 clear Z hBa hBs B4 F4
 go_upto_region 5 with fail
 generalize (w4.alloc (.cells (barr fun _ => false) 30)).setRow w4.heap.size (barr G) = w5 at *
 generalize w4.heap.size = C at *
 clear Zs hz
 refine wp_region_noPanic ?_
 refine wp_region_held_drew (S := fun W => Four W A 25 (.int .u64 (wd G 0)) (.int .u64 (wd G 1)) (.int .u64 (wd G 2)) (.int .u64 (wd G 3)) ∧ Row W C G) (by kernel_rfl) ⟨⟨F5.out.heap⟩, ⟨ZR.out.heap⟩⟩ (fun _ => ?_)
 have HM := Lib.hid ((Below.refl w5.heap.size w5).drew)
 have HSW : Hid (Four w5.drew A 25 (.int .u64 (wd G 0)) (.int .u64 (wd G 1)) (.int .u64 (wd G 2)) (.int .u64 (wd G 3)) ∧ Row w5.drew C G) := Lib.hid (by assumption)
 generalize w5.drew = W at *
 refine wpAnyH_take (i := 0) (v := ?_) rfl (by kernel_rfl) (by kernel_rfl) (by kernel_rfl) (fun _ _ _ h => h) (Or.inl ⟨by kernel_rfl, ?_⟩) HSW.out ?_
 rotate_left
 ·(intro w hSw; obtain ⟨hS1, hS2⟩ := hSw; have c0 := hS1.c0; have c1 := hS1.c1; have c2 := hS1.c2; have c3 := hS1.c3; clear hS1 hS2; go_simp); (try with_reducible rfl)
 try simp only [Act.put, laS]
 refine wpAnyH_take (i := 1) (v := .agg (barr G)) rfl (by kernel_rfl) (by kernel_rfl) (by kernel_rfl) (fun _ _ _ h => h) (Or.inl ⟨by kernel_rfl, fun w hSw => run_load_rowv hSw.2 rfl rfl⟩) HSW.out ?_
 try simp only [Act.put, laS]
 refine wpAnyH_ready (rs := [2]) (by kernel_rfl) (by simp) ?_
 refine AllReadyH.cons rfl (fun K hK => ?_) AllReadyH.nil
 go_simp
 refine (HWD.out _).mono ?_
 rintro e6 W6 ⟨rfl, hB6⟩
 have hsW := HM.out.size
 have HM6 := Lib.hid (HM.out.trans (hB6.mono hsW))
 have HSW : Hid (Four W6 A 25 (.int .u64 (wd G 0)) (.int .u64 (wd G 1)) (.int .u64 (wd G 2)) (.int .u64 (wd G 3)) ∧ Row W6 C G) := Lib.hid ⟨F5.out.below HM6.out hA5, ZR.out.below HM6.out hC5⟩
 clear hB6 hsW HM HWD
 refine hK.out _ _ HSW.out (fun _ => ?_)
 clear hK K
 try simp only [Act.put, laS]
 refine wpAnyH_take (i := 3) (v := ?_) rfl (by kernel_rfl) (by kernel_rfl) (by kernel_rfl) (fun _ _ _ h => h) (Or.inl ⟨by kernel_rfl, ?_⟩) HSW.out ?_
 rotate_left
 ·(intro w hSw; obtain ⟨hS1, hS2⟩ := hSw; have c0 := hS1.c0; have c1 := hS1.c1; have c2 := hS1.c2; have c3 := hS1.c3; clear hS1 hS2; go_simp); (try with_reducible rfl)
 try simp only [Act.put, laS]
 refine wpAnyH_take (i := 4) (v := ?_) rfl (by kernel_rfl) (by kernel_rfl) (by kernel_rfl) (fun _ _ _ h => h) (Or.inl ⟨by kernel_rfl, ?_⟩) HSW.out ?_
 rotate_left
 ·(intro w hSw; obtain ⟨hS1, hS2⟩ := hSw; have c0 := hS1.c0; have c1 := hS1.c1; have c2 := hS1.c2; have c3 := hS1.c3; clear hS1 hS2; go_simp); (try with_reducible rfl)
 try simp only [Act.put, laS]
 refine wpAnyH_take (i := 5) (v := ?_) rfl (by kernel_rfl) (by kernel_rfl) (by kernel_rfl) (fun _ _ _ h => h) (Or.inl ⟨by kernel_rfl, ?_⟩) HSW.out ?_
 rotate_left
 ·(intro w hSw; obtain ⟨hS1, hS2⟩ := hSw; have c0 := hS1.c0; have c1 := hS1.c1; have c2 := hS1.c2; have c3 := hS1.c3; clear hS1 hS2; go_simp); (try with_reducible rfl)
 try simp only [Act.put, laS]
 refine wpAnyH_take (i := 6) (v := ?_) rfl (by kernel_rfl) (by kernel_rfl) (by kernel_rfl) (fun _ _ _ h => h) (Or.inl ⟨by kernel_rfl, ?_⟩) HSW.out ?_
 rotate_left
 ·(intro w hSw; obtain ⟨hS1, hS2⟩ := hSw; have c0 := hS1.c0; have c1 := hS1.c1; have c2 := hS1.c2; have c3 := hS1.c3; clear hS1 hS2; go_simp); (try with_reducible rfl)
 try simp only [Act.put, laS]
 refine wpAnyH_take (i := 7) (v := ?_) rfl (by kernel_rfl) (by kernel_rfl) (by kernel_rfl) (fun _ _ _ h => h) (Or.inl ⟨by kernel_rfl, ?_⟩) HSW.out ?_
 rotate_left
 ·(intro w hSw; obtain ⟨hS1, hS2⟩ := hSw; have c0 := hS1.c0; have c1 := hS1.c1; have c2 := hS1.c2; have c3 := hS1.c3; clear hS1 hS2; go_simp); (try with_reducible rfl)
 try simp only [Act.put, laS]
 refine wpAnyH_take (i := 8) (v := ?_) rfl (by kernel_rfl) (by kernel_rfl) (by kernel_rfl) (fun _ _ _ h => h) (Or.inl ⟨by kernel_rfl, ?_⟩) HSW.out ?_
 rotate_left
 ·(intro w hSw; obtain ⟨hS1, hS2⟩ := hSw; have c0 := hS1.c0; have c1 := hS1.c1; have c2 := hS1.c2; have c3 := hS1.c3; clear hS1 hS2; go_simp); (try with_reducible rfl)
 try simp only [Act.put, laS]
 refine wpAnyH_take (i := 9) (v := ?_) rfl (by kernel_rfl) (by kernel_rfl) (by kernel_rfl) (fun _ _ _ h => h) (Or.inl ⟨by kernel_rfl, ?_⟩) HSW.out ?_
 rotate_left
 ·(intro w hSw; obtain ⟨hS1, hS2⟩ := hSw; have c0 := hS1.c0; have c1 := hS1.c1; have c2 := hS1.c2; have c3 := hS1.c3; clear hS1 hS2; go_simp); (try with_reducible rfl)
 try simp only [Act.put, laS]
 refine wpAnyH_take (i := 10) (v := ?_) rfl (by kernel_rfl) (by kernel_rfl) (by kernel_rfl) (fun _ _ _ h => h) (Or.inl ⟨by kernel_rfl, ?_⟩) HSW.out ?_
 rotate_left
 ·(intro w hSw; obtain ⟨hS1, hS2⟩ := hSw; have c0 := hS1.c0; have c1 := hS1.c1; have c2 := hS1.c2; have c3 := hS1.c3; clear hS1 hS2; go_simp); (try with_reducible rfl)
 try simp only [Act.put, laS]
 refine wpAnyH_take (i := 11) (v := ?_) rfl (by kernel_rfl) (by kernel_rfl) (by kernel_rfl) (fun _ _ _ h => h) (Or.inl ⟨by kernel_rfl, ?_⟩) HSW.out ?_
 rotate_left
 ·(intro w hSw; obtain ⟨hS1, hS2⟩ := hSw; have c0 := hS1.c0; have c1 := hS1.c1; have c2 := hS1.c2; have c3 := hS1.c3; clear hS1 hS2; go_simp); (try with_reducible rfl)
 try simp only [Act.put, laS]
 refine wpAnyH_take (i := 12) (v := ?_) rfl (by kernel_rfl) (by kernel_rfl) (by kernel_rfl) (fun _ _ _ h => h) (Or.inl ⟨by kernel_rfl, ?_⟩) HSW.out ?_
 rotate_left
 ·(intro w hSw; obtain ⟨hS1, hS2⟩ := hSw; have c0 := hS1.c0; have c1 := hS1.c1; have c2 := hS1.c2; have c3 := hS1.c3; clear hS1 hS2; go_simp); (try with_reducible rfl)
 try simp only [Act.put, laS]
 refine wpAnyH_take (i := 13) (v := ?_) rfl (by kernel_rfl) (by kernel_rfl) (by kernel_rfl) (fun _ _ _ h => h) (Or.inl ⟨by kernel_rfl, ?_⟩) HSW.out ?_
 rotate_left
 ·(intro w hSw; obtain ⟨hS1, hS2⟩ := hSw; have c0 := hS1.c0; have c1 := hS1.c1; have c2 := hS1.c2; have c3 := hS1.c3; clear hS1 hS2; go_simp); (try with_reducible rfl)
 try simp only [Act.put, laS]
 refine wpAnyH_ready (rs := [14]) (by kernel_rfl) (by simp) ?_
 refine AllReadyH.cons rfl (fun K hK => ?_) AllReadyH.nil
 go_simp
 refine hK.out _ _ HSW.out (fun _ => ?_)
 clear hK K
 try simp only [Act.put, laS]
 have HB9 := Lib.hid (B5.out.trans (HM6.out.mono B5.out.size))
 clear HSW HM6 B5 F5 ZR
 refine wpAnyH_done (by kernel_rfl) ?_ _
 refine NoPanic.normal ?_
 go_wp2
 go_ret
 exact ⟨rfl, HB9.out⟩
theorem breBracketsB (s : ByteArray) (w : World) (_ : s.size ≤ Go.reachBytes) (hw : Fit5 w) :
  Calls Tryz.prog 3 #[.string s] w fun e w' => e = .returned (.bool true) ∧ Below w.heap.size w w' := by
 by_cases h : 300 < s.size
 ·exact brackets_wide s h w hw
 ·have e : s = ⟨s.data.toList.toArray⟩ := by simp
  have hl : s.data.toList.length ≤ 300 := by simp; omega
  rw [e]
  exact brackets_in _ hl w hw
end Go.Proofs.YtkmfncajdkdenaaGreatDoor
